/-
  What together answers: all that is told, with a text between, or that it is too long: for whatever function that tells texts. No condition but that the texts have at most 10 million bytes each.
  Functions that tell texts, made one out of the other: slices.Values, each, only, pairs. No condition.
  The functions that package call hands to each and only: what they answer of a word, as long as what they have captured lies where it lay. For texts of at most 10 million bytes. No condition.
  What list tells: what is said of it, and small laws. No condition.
  What strings.SplitSeq tells, at whatever part that has a byte. For texts of at most 10 million bytes. No condition.
  What subst, findstring and wordlist of package call answer. For texts of at most a million bytes. No condition.
  What wordlist of package call answers. For texts of at most a million bytes. No condition.
-/
import Derived.RangeFuncNested
import Derived.Test.YtmfjolmfbdbegaaGreatDoorNI
import Derived.Test.YtmfjolmfbdbegaaGreatDoorNBd
import Derived.Test.YtmfjolmfbdbegaaGreatDoorNM2
import Derived.Test.YtmfjolmfbdbegaaGreatDoorNM1
import Derived.Test.YtmfjolmfbdbegaaGreatDoorHG
import Derived.Test.YtmfjolmfbdbegaaGreatDoorHRf
namespace Go.Proofs.YtmfjolmfbdbegaaGreatDoor
open Go.RowKit Go.Shelf
attribute [local go_sem] Oper.semAt_some
set_option maxHeartbeats 1000000 in
theorem len_any (b:Nat) (Y:Nat→Prop) (p:Value) (l:List UInt8) (w:World) (h:BuiltP w Y b p l) :
  Calls Tryz.prog 174 #[.pointer (some ⟨b,0,none⟩)] w fun e w'=>e=.returned (.int .i64 l.length)∧w'=w:=by
 obtain ⟨v,hbk,hown,_,_,_⟩:=h
 obtain ⟨o,c,rfl⟩:∃ o c,v=.slice o l.length c:=by
  rcases hown.2 with ⟨hv,hz⟩ | ⟨g,cap,cur,fz,hv,_⟩
  ·exact ⟨none,0,by rw [hv,hz]⟩
  ·exact ⟨_,_,hv⟩
 have c1:w.cell? ⟨b,1,none⟩=some (.slice o l.length c):=by rw [Lib.cell_of_heap hbk];rfl
 clear hown hbk
 go_enter Tryz.func174,Tryz.ntmps174
 go_wp2
 go_ret
 exact ⟨rfl,rfl⟩
set_option maxRecDepth 100000 in
set_option maxHeartbeats 2000000 in
theorem string_fresh (b:Nat) (Y:Nat→Prop) (w:World) (h:BuiltP w Y b (.pointer none) []) :
  Calls Tryz.prog 134 #[.pointer (some ⟨b,0,none⟩)] w fun e w'=>e=.returned (.string (txt []))∧Turned Y w w':=by
 obtain ⟨v,hbk,hown,hnl,hyb,hyg⟩:=h
 obtain rfl:=hnl rfl
 have hUS:∀ (W:World) (q:Option Addr),(Builtin.unsafeString_ #[202,3] 9 #[.pointer q,.int .i64 0]).run Tryz.prog W=.ok (.string (txt [])) W:=fun W q=>Any.unsafeString_none lays169 extra169 W q
 have c1:w.drew.cell? ⟨b,1,none⟩=some (.slice none 0 0):=by
  have:w.drew.heap[b]? = some (.cells #[.pointer none,.slice none 0 0] 176 (0,0)):=hbk
  rw [Lib.cell_of_heap this];rfl
 have hSD:(Builtin.unsafeSliceData_ #[154] 202 #[.slice none 0 0]).run Tryz.prog w.drew=.ok (.pointer none) w.drew:=rfl
 have mixed:=lays169.mixed
 clear hbk hown hyg hnl
 go_enter Tryz.func134,Tryz.ntmps134
 go_wp2
 go_region_o
 all_goals (go_wp2;go_ret;exact ⟨rfl,Turned.drew _ _⟩)
theorem boxed_other {W:World} {B b:Nat} {t:TypeId} {v:Value} (h:Boxed W B t v) (v':Value) (hne:B≠b):Boxed (W.setCell ⟨b,0,none⟩ v') B t v :=
 h.kept (grownBy_setCell' W b v') (by intro e;exact hne (Option.some.inj e))
def joinS (l:List ByteArray) (sep:ByteArray):BT:=Lib.join (l.map (·.data.toList)) sep.data.toList
theorem joinS_snoc (l:List ByteArray) (x sep:ByteArray):joinS (l++[x]) sep=if l=[] then x.data.toList else joinS l sep++sep.data.toList++x.data.toList:=by
 unfold joinS
 cases l with
 | nil=>rw [if_pos rfl];exact Lib.join_one x.data.toList sep.data.toList
 | cons y r =>
  rw [if_neg (by simp),List.cons_append,List.map_cons,List.map_cons,Lib.join_cons,Lib.join_cons]
  unfold Lib.joinTail
  simp [List.append_assoc]
theorem joinS_more (l r:List ByteArray) (sep:ByteArray):(joinS l sep).length≤(joinS (l++r) sep).length:=by
 induction r generalizing l with
 | nil=>simp
 | cons x r ih =>
  have h1:=ih (l++[x])
  rw [List.append_assoc,List.singleton_append] at h1
  refine Nat.le_trans ?_ h1
  rw [joinS_snoc]
  split
  ·next h=>subst h;simp [joinS,Lib.join]
  ·simp only [List.length_append];omega
def togT (l:List ByteArray) (sep:ByteArray):BT × Int:=if (joinS l sep).length≤4000 then (joinS l sep,0) else ([],3)
def HoldsT (sep:ByteArray) (n₀ n:Nat) (w:World) (X:Nat→Prop) (pre:List ByteArray) (W:World):Prop :=
 (Boxed W n 9 (.string sep)∧Boxed W (n+1) 9 (.string ⟨#[]⟩)∧Boxed W (n+1+1) 31 (.int .i64 0)∧Boxed W (n+1+1+1+1) 9 (.string (if pre=[] then ⟨#[]⟩ else sep))) ∧
 (∃ (Z:Nat→Prop) (p:Value),(p=.pointer none∧pre=[]∨p=.pointer (some ⟨n+1+1+1,0,none⟩))∧BuiltP W Z (n+1+1+1) p (joinS pre sep)∧∀ k,Z k→(k=n+1+1+1∨n+1+1+1+1 < k)∧k < W.heap.size∧¬ X k) ∧
 (∀ k,n≤k→k≤n+1+1+1+1→¬ X k)∧Below n₀ w W∧(∀ k,X k→n₀≤k∧k < W.heap.size)∧(joinS pre sep).length≤4000
def LeftT (sep:ByteArray) (n₀ n:Nat) (w:World) (c:Code) (X:Nat→Prop) (pre:List ByteArray) (W:World):Prop :=
 c=.ret∧(Boxed W (n+1) 9 (.string ⟨#[]⟩)∧Boxed W (n+1+1) 31 (.int .i64 3))∧(¬ X (n+1)∧¬ X (n+1+1))∧Below n₀ w W∧(∀ k,X k→n₀≤k∧k < W.heap.size)∧4000 < (joinS pre sep).length
theorem x_step {X X':Nat→Prop} {A C:World} {n₀:Nat} (hn:n₀≤A.heap.size) (hs:A.heap.size≤C.heap.size) (hX:∀ k,X k→n₀≤k∧k < A.heap.size) (hsub:∀ k,X' k→X k∨(A.heap.size≤k∧k < C.heap.size)):∀ k,X' k→n₀≤k∧k < C.heap.size:=by
 intro k h
 rcases hsub k h with h | h
 ·have:=hX k h;omega
 ·omega
theorem x_not {X X':Nat→Prop} {A C:World} (hsub:∀ k,X' k→X k∨(A.heap.size≤k∧k < C.heap.size)) {B:Nat} (hB:¬ X B) (hlt:B < A.heap.size):¬ X' B:=by
 intro h
 rcases hsub B h with h | h
 ·exact hB h
 ·omega
theorem holdsT_abides (sep:ByteArray) (n₀ n:Nat) (w:World) (hn:n₀≤w.heap.size):Abides' (HoldsT sep n₀ n w):=by
 rintro X X' pre A C ⟨⟨h1,h2,h3,h4⟩,⟨Z,p,hp,hb,hZ⟩,hN,hB,hX,hl⟩ hT hsub
 have hs:=hB.size
 have h5:=h4.lt
 refine ⟨⟨hT.boxed h1 (hN _ (by omega) (by omega)),hT.boxed h2 (hN _ (by omega) (by omega)),hT.boxed h3 (hN _ (by omega) (by omega)),hT.boxed h4 (hN _ (by omega) (by omega))⟩,
  ⟨Z,p,hp,hb.kept hT (fun k h=>(hZ k h).2.2) (fun _ h _=>h),fun k h=>⟨(hZ k h).1,Nat.lt_of_lt_of_le (hZ k h).2.1 hT.size,x_not hsub (hZ k h).2.2 (hZ k h).2.1⟩⟩,
  fun k ha hb=>x_not hsub (hN k ha hb) (by omega),hB.trans (hT.below (by omega) fun k h=>(hX k h).1),x_step (by omega) hT.size hX hsub,hl⟩
theorem leftT_abides (sep:ByteArray) (n₀ n:Nat) (w:World) (hn:n₀≤w.heap.size) (c:Code):Abides' (LeftT sep n₀ n w c):=by
 rintro X X' pre A C ⟨hc,⟨h1,h2⟩,⟨hN1,hN2⟩,hB,hX,hl⟩ hT hsub
 have hs:=hB.size
 exact ⟨hc,⟨hT.boxed h1 hN1,hT.boxed h2 hN2⟩,⟨x_not hsub hN1 h1.lt,x_not hsub hN2 h2.lt⟩,hB.trans (hT.below (by omega) fun k h=>(hX k h).1),x_step (by omega) hT.size hX hsub,hl⟩
set_option maxRecDepth 100000 in
set_option maxHeartbeats 4000000 in
theorem together_any (gf:Nat) (lb:Array Value) (hg:∀ args w,(callFunc gf args).run Tryz.prog w=.ok (.enter gf args) w) (sep:ByteArray) (hsep:sep.size≤10000000) (Y X0:Nat→Prop) (xs:List ByteArray) (hxs:∀ x∈xs,x.size≤10000000) (w:World) (n₀:Nat) (hn:n₀≤w.heap.size)
  (hseq:∀ n,TellsY n Tryz.prog gf lb encT Y X0 xs w) (hX0:∀ k,X0 k→n₀≤k∧k < w.heap.size) (hY:∀ k,Y k→k < n₀) :
  Calls Tryz.prog 200 #[.func (.func gf) #[] lb,.string sep] w fun e W'=>e=.returned (.tuple #[.string (txt (togT xs sep).1),.int .i64 (togT xs sep).2])∧Below n₀ w W':=by
 refine (callsIn_wide (n:=9)).1 ?_
 refine callsIn_of_wp_marks Tryz.func200 rfl trivial ?_ rfl
 simp only [Tryz.ntmps200,List.size_toArray,List.length_cons,List.length_nil,Nat.reduceAdd,Nat.reduceSub,Array.replicate_succ,Array.replicate_zero,List.push_toArray,List.append_toArray,List.nil_append,List.cons_append]
 gi_wp2
 have a1:=Boxed.new w 9 (.string sep)
 have a2:=Boxed.new (w.alloc (.cells #[.string sep] 9)) 9 (.string ⟨#[]⟩)
 have a3:=Boxed.new ((w.alloc (.cells #[.string sep] 9)).alloc (.cells #[.string ⟨#[]⟩] 9)) 31 (.int .i64 0)
 have a4:=BuiltP.fresh (((w.alloc (.cells #[.string sep] 9)).alloc (.cells #[.string ⟨#[]⟩] 9)).alloc (.cells #[.int .i64 0] 31))
 have a5:=Boxed.new ((((w.alloc (.cells #[.string sep] 9)).alloc (.cells #[.string ⟨#[]⟩] 9)).alloc (.cells #[.int .i64 0] 31)).alloc (.cells #[.pointer none,.slice none 0 0] 176)) 9 (.string ⟨#[]⟩)
 simp only [World.size_alloc] at a1 a2 a3 a4 a5
 have b1:=(((a1.alloc (.cells #[.string ⟨#[]⟩] 9)).alloc (.cells #[.int .i64 0] 31)).alloc (.cells #[.pointer none,.slice none 0 0] 176)).alloc (.cells #[.string ⟨#[]⟩] 9)
 have b2:=((a2.alloc (.cells #[.int .i64 0] 31)).alloc (.cells #[.pointer none,.slice none 0 0] 176)).alloc (.cells #[.string ⟨#[]⟩] 9)
 have b3:=(a3.alloc (.cells #[.pointer none,.slice none 0 0] 176)).alloc (.cells #[.string ⟨#[]⟩] 9)
 have b4:=a4.kept (Z:=fun n=>n=w.heap.size+1+1+1) (Turned.alloc (fun _=>False) _ (.cells #[.string ⟨#[]⟩] 9)) (fun _ _ h=>h) (fun n h _=>h)
 have hbV:Below n₀ w (((((w.alloc (.cells #[.string sep] 9)).alloc (.cells #[.string ⟨#[]⟩] 9)).alloc (.cells #[.int .i64 0] 31)).alloc (.cells #[.pointer none,.slice none 0 0] 176)).alloc (.cells #[.string ⟨#[]⟩] 9)) :=
  (((((Below.refl n₀ w).alloc hn _).alloc (by simp;omega) _).alloc (by simp;omega) _).alloc (by simp;omega) _).alloc (by simp;omega) _
 have hkV:Kept X0 w (((((w.alloc (.cells #[.string sep] 9)).alloc (.cells #[.string ⟨#[]⟩] 9)).alloc (.cells #[.int .i64 0] 31)).alloc (.cells #[.pointer none,.slice none 0 0] 176)).alloc (.cells #[.string ⟨#[]⟩] 9)) :=
  ((((Kept.alloc X0 w _).trans (Kept.alloc X0 _ _)).trans (Kept.alloc X0 _ _)).trans (Kept.alloc X0 _ _)).trans (Kept.alloc X0 _ _)
 have hVs:(((((w.alloc (.cells #[.string sep] 9)).alloc (.cells #[.string ⟨#[]⟩] 9)).alloc (.cells #[.int .i64 0] 31)).alloc (.cells #[.pointer none,.slice none 0 0] 176)).alloc (.cells #[.string ⟨#[]⟩] 9)).heap.size=w.heap.size+5:=by simp
 clear a1 a2 a3 a4
 generalize (((((w.alloc (.cells #[.string sep] 9)).alloc (.cells #[.string ⟨#[]⟩] 9)).alloc (.cells #[.int .i64 0] 31)).alloc (.cells #[.pointer none,.slice none 0 0] 176)).alloc (.cells #[.string ⟨#[]⟩] 9))=V at b1 b2 b3 b4 a5 hbV hkV hVs ⊢
 have HXS:=Lib.hid hxs
 clear hxs
 refine wpIn_rangeY (gf:=gf) rfl hg (hseq _) hkV (fun k h=>by have:=hX0 k h;omega) (fun _=>rfl)
  (HoldsT sep n₀ w.heap.size w) (LeftT sep n₀ w.heap.size w) (holdsT_abides _ _ _ _ hn) (leftT_abides _ _ _ _ hn)
  (fun X pre U h=>(below_kept h.2.2.2.1).sub hY)
  ⟨⟨b1,b2,b3,a5⟩,⟨_,_,.inl ⟨rfl,rfl⟩,b4,fun k h=>⟨.inl h,by omega,fun hx=>by have:=hX0 k hx;omega⟩⟩,fun k h _ hx=>by have:=hX0 k hx;omega,hbV,fun k h=>by have:=hX0 k h;omega,by simp [joinS,Lib.join]⟩
  (fun x=>{ tmps:=#[.func (.func gf) #[] lb,.string sep,undef,.pointer (some ⟨w.heap.size,0,none⟩),.pointer (some ⟨w.heap.size+1,0,none⟩),.pointer (some ⟨w.heap.size+1+1,0,none⟩),.pointer (some ⟨w.heap.size+1+1+1,0,none⟩),.pointer (some ⟨w.heap.size+1+1+1+1,0,none⟩),.string x,
   .func (.func gf) #[] lb,.string x,undef,undef,undef,undef,undef,undef,undef,undef,undef,undef,undef,undef,undef,undef],defers:=[] }) ?assign ?body ?done ?stop
 case assign =>
  intro l x U K hK
  gi_wp2
  exact hK
 case body =>
  rintro l' X pre x U ⟨⟨h1,h2,h3,h4⟩,⟨Z,p,hp,hb,hZ⟩,hN,hB,hX,hl⟩ hpre
  have hxz:x.size≤10000000:=HXS.out x (hpre.subset (by simp))
  obtain ⟨gv,hgv⟩:∃ gv,gv=(if pre=[] then (⟨#[]⟩:ByteArray) else sep):=⟨_,rfl⟩
  rw [← hgv] at h4
  have hgz:gv.size≤10000000:=by
   rw [hgv]
   split
   ·exact Nat.zero_le _
   ·exact hsep
  have HJ:Hid (joinS (pre++[x]) sep=joinS pre sep++gv.data.toList++x.data.toList):=by
   show _=_
   rw [joinS_snoc,hgv]
   split
   ·next h=>subst h;simp [joinS,Lib.join]
   ·rfl
  have hsz:=hB.size
  have n1:¬ X (w.heap.size+1):=hN _ (by omega) (by omega)
  have n2:¬ X (w.heap.size+1+1):=hN _ (by omega) (by omega)
  have n4:¬ X (w.heap.size+1+1+1+1):=hN _ (by omega) (by omega)
  have hbl:=hb.lt
  have h4l:=h4.lt
  obtain ⟨k,hk⟩:∃ k,k=(joinS pre sep).length:=⟨_,rfl⟩
  have HLen:Hid (∀ m,Calls Tryz.prog 174 #[.pointer (some ⟨w.heap.size+1+1+1,0,none⟩)] (U.drewN m) fun e w''=>e=.returned (.int .i64 (k:Int))∧∃ j,w''=U.drewN j):=fun m =>
   (len_any _ Z p _ (U.drewN m) (hb.kept (Turned.drewN (fun _=>False) U m) (fun _ _ h=>h) (fun _ h _=>h))).mono fun e w'' h=>⟨by rw [hk];exact h.1,m,h.2⟩
  have hc4:=h4.cell
  rw [← hk] at hl
  have HK:=Lib.hid hk
  clear hgv hk
  gi_wp2
  refine region_quiet_round l' rfl (by kernel_rfl) (by kernel_rfl) (by kernel_rfl) ?_
  repeat (refine wpQuietIn_step (fun _ _ _ _=>trivial) (fun K hK=>?_);go_simp;first | (refine hK _ ?_;clear hK K) | (apply Exists.intro;refine ⟨fun _=>?_,hK _ ?_⟩;(exact callsIn_wide.2 (HLen.out _));clear hK K))
  refine wpQuietIn_nil ?_
  intro _ hw'
  obtain ⟨nq,hw''⟩:=hw'
  subst hw''
  ·skip
   have q1:=(Kept.drewN (fun j=>w.heap.size≤j) U nq).boxed h1 (Nat.le_refl _)
   have q2:=(Kept.drewN (fun j=>w.heap.size≤j) U nq).boxed h2 (by show w.heap.size≤_;omega)
   have q3:=(Kept.drewN (fun j=>w.heap.size≤j) U nq).boxed h3 (by show w.heap.size≤_;omega)
   have q4:=(Kept.drewN (fun j=>w.heap.size≤j) U nq).boxed h4 (by show w.heap.size≤_;omega)
   have qb:=hb.kept (Z:=Z) (Turned.drewN (fun _=>False) U nq) (fun _ _ h=>h) (fun _ h _=>h)
   have hkx:Kept X U (U.drewN nq):=Kept.drewN _ _ _
   have hBn:Below n₀ w (U.drewN nq):=⟨hB.os,hB.tape,hB.output,hB.size,hB.block⟩
   have hzn:(U.drewN nq).heap.size=U.heap.size:=rfl
   clear hc4 HLen
   generalize U.drewN nq=U1 at q1 q2 q3 q4 qb hkx hBn hzn ⊢
   have hp':p=.pointer none∨p=.pointer (some ⟨w.heap.size+1+1+1,0,none⟩):=hp.elim (fun h=>.inl h.1) .inr
   clear hp h1 h2 h3 h4 hb
   have e1:IntKind.i64.wrap ((k:Int)+(gv.size:Int))=(k:Int)+(gv.size:Int):=by rw [IntKind.wrap_i64];omega
   have e2:IntKind.i64.wrap ((k:Int)+(gv.size:Int)+(x.size:Int))=(k:Int)+(gv.size:Int)+(x.size:Int):=by rw [IntKind.wrap_i64];omega
   simp only [e1,e2]
   clear e1 e2
   by_cases hgt:4000 < k+gv.size+x.size
   ·have HG:Hid (4000 < (joinS (pre++[x]) sep).length):=by
     show _ < _
     rw [HJ.out,List.length_append,List.length_append,size_list,size_list,← HK.out]
     exact hgt
    have c2:=q2.cell
    have f2:=q2.frozen
    have c3:=q3.cell
    have f3:=q3.frozen
    gi_wp2
    refine ⟨(hkx.trans (Kept.setCell _ _ _ n1)).trans (Kept.setCell _ _ _ n2),rfl,⟨boxed_other (q2.set _) _ (by omega),(boxed_other q3 _ (by omega)).set _⟩,⟨n1,n2⟩,
     (hBn.setCell (p:=⟨w.heap.size+1,0,none⟩) (by show n₀≤w.heap.size+1;omega) _).setCell (p:=⟨w.heap.size+1+1,0,none⟩) (by show n₀≤w.heap.size+1+1;omega) _,fun j h=>?_,HG.out⟩
    have:=hX j h;simp;omega
   ·have c4:=q4.cell
    gi_wp2
    refine ⟨trivial,(CallsIn.inRound l' (callsIn_wide.2 (write_any _ Z p hp' _ gv U1 qb (by rw [← HK.out];omega)))).mono ?_⟩
    rintro e W2 ⟨rfl,qb2,ht2⟩
    have hs2:=ht2.size
    have q12:=ht2.boxed q1 (fun h=>by have:=hZ _ h;omega)
    have q22:=ht2.boxed q2 (fun h=>by have:=hZ _ h;omega)
    have q32:=ht2.boxed q3 (fun h=>by have:=hZ _ h;omega)
    have q42:=ht2.boxed q4 (fun h=>by have:=hZ _ h;omega)
    have qb3:=BuiltP.kept (Z:=fun j=>(Z j∨U1.heap.size≤j)∧j < W2.heap.size) qb2 (Turned.refl (fun _=>False) W2) (fun _ _ h=>h) (fun j h hj=>⟨h,hj⟩)
    gi_wp2
    refine ⟨trivial,(CallsIn.inRound l' (callsIn_wide.2 (write_any _ _ _ (.inr rfl) _ x W2 qb3 (by rw [List.length_append,size_list,← HK.out];omega)))).mono ?_⟩
    rintro e W3 ⟨rfl,qb4,ht3⟩
    have hs3:=ht3.size
    have q13:=ht3.boxed q12 (fun h=>by rcases h.1 with h' | h' <;> (try have:=hZ _ h') <;> omega)
    have q23:=ht3.boxed q22 (fun h=>by rcases h.1 with h' | h' <;> (try have:=hZ _ h') <;> omega)
    have q33:=ht3.boxed q32 (fun h=>by rcases h.1 with h' | h' <;> (try have:=hZ _ h') <;> omega)
    have q43:=ht3.boxed q42 (fun h=>by rcases h.1 with h' | h' <;> (try have:=hZ _ h') <;> omega)
    have c1:=q13.cell
    have c4:=q43.cell
    have f4:=q43.frozen
    gi_wp2
    have hkX2:Kept X U1 W2:=⟨hs2,fun j hj hlt=>ht2.block j hlt (fun h=>(hZ j h).2.2 hj)⟩
    have hkX3:Kept X W2 W3:=⟨hs3,fun j hj hlt=>ht3.block j hlt (fun h=>by
     rcases h.1 with h' | h'
     ·exact (hZ j h').2.2 hj
     ·have:=hX j hj;omega)⟩
    have hB2:Below n₀ w W2:=hBn.trans (ht2.below (by omega) fun j h=>by have:=hZ j h;omega)
    have hB3:Below n₀ w W3:=hB2.trans (ht3.below (by omega) fun j h=>by
     rcases h.1 with h' | h'
     ·have:=hZ j h';omega
     ·omega)
    have hJl:(joinS (pre++[x]) sep).length≤4000:=by
     rw [HJ.out,List.length_append,List.length_append,size_list,size_list,← HK.out]
     omega
    have qb5:=BuiltP.kept (Z:=fun j=>((((Z j∨U1.heap.size≤j)∧j < W2.heap.size)∨W2.heap.size≤j))∧j < W3.heap.size) qb4 (Turned.setCell (X:=fun j=>j=w.heap.size+1+1+1+1) W3 ⟨w.heap.size+1+1+1+1,0,none⟩ (.string sep) rfl) (fun j h hj=>by
     subst hj
     rcases h with h | h
     ·rcases h.1 with h' | h'
      ·have:=hZ _ h';omega
      ·omega
     ·omega) (fun j h hj=>⟨h,hj⟩)
    have hne1:pre++[x]≠[]:=by simp
    refine ⟨((hkx.trans hkX2).trans hkX3).trans (Kept.setCell _ _ _ n4),⟨boxed_other q13 _ (by omega),boxed_other q23 _ (by omega),boxed_other q33 _ (by omega),by rw [if_neg hne1];exact q43.set _⟩,
     ⟨_,_,.inr rfl,by rw [HJ.out];exact qb5,fun j h=>?_⟩,hN,hB3.setCell (p:=⟨w.heap.size+1+1+1+1,0,none⟩) (by show n₀≤w.heap.size+1+1+1+1;omega) _,fun j h=>?_,hJl⟩
    ·obtain ⟨h,hlt3⟩:=h
     refine ⟨?_,by simpa using hlt3,fun hj=>?_⟩
     ·rcases h with h | h
      ·rcases h.1 with h' | h'
       ·exact (hZ _ h').1
       ·right;omega
      ·right;omega
     ·have hxj:=hX j hj
      rcases h with h | h
      ·rcases h.1 with h' | h'
       ·exact (hZ _ h').2.2 hj
       ·omega
      ·omega
    ·have:=hX j h;simp;omega
 case done =>
  rintro D X U hD hXD ⟨⟨h1,h2,h3,h4⟩,⟨Z,p,hp,hb,hZ⟩,hN,hB,hX,hl⟩ hK
  have HS:Hid (Calls Tryz.prog 134 #[.pointer (some ⟨w.heap.size+1+1+1,0,none⟩)] U fun e w'=>e=.returned (.string (txt (joinS xs sep)))∧Turned Z U w'):=by
   rcases hp with ⟨rfl,rfl⟩ | rfl
   ·exact string_fresh _ Z U hb
   ·exact (string_any _ Z _ U hb (by omega)).mono fun e w' h=>⟨h.1,h.2.2⟩
  have HR:Hid (togT xs sep=(joinS xs sep,0)):=by
   show _=_
   unfold togT
   rw [if_pos hl]
  have hsz:=hB.size
  have hl2:=h2.lt
  have hl3:=h3.lt
  have hDl:=(Array.getElem?_eq_some_iff.1 hK).1
  clear hb hp
  gi_wp2
  refine ⟨trivial,(callsIn_wide.2 HS.out).mono ?_⟩
  rintro e W1 ⟨rfl,ht⟩
  have hs1:=ht.size
  have k2:=ht.boxed h2 (fun h=>by have:=hZ _ h;omega)
  have k3:=ht.boxed h3 (fun h=>by have:=hZ _ h;omega)
  have hK1:W1.heap[D]? = some (.deferred (some [])):=(ht.block D hDl (fun h=>(hZ D h).2.2 hXD)).trans hK
  have hB1:Below n₀ w W1:=hB.trans (ht.below (by omega) fun j h=>by have:=hZ j h;omega)
  have c2:=k2.cell
  have f2:=k2.frozen
  have c3:=k3.cell
  have f3:=k3.frozen
  have hDn:D≠w.heap.size+1∧D≠w.heap.size+1+1:=⟨fun h=>hN _ (by omega) (by omega) (h ▸ hXD),fun h=>hN _ (by omega) (by omega) (h ▸ hXD)⟩
  gi_wp2
  have hK2:((W1.setCell ⟨w.heap.size+1,0,none⟩ (.string (txt (joinS xs sep)))).setCell ⟨w.heap.size+1+1,0,none⟩ (.int .i64 0)).heap[D]? = some (.deferred (some [])) :=
   ((Below.heap_setCell _ _ _ _ hDn.2).trans (Below.heap_setCell _ _ _ _ hDn.1)).trans hK1
  refine ⟨by simp,.inl ⟨_,_,rfl,run_takeDeferred hK2,?_⟩⟩
  have hY:Turned (fun k=>k=w.heap.size+1∨k=w.heap.size+1+1∨k=D) W1 (((W1.setCell ⟨w.heap.size+1,0,none⟩ (.string (txt (joinS xs sep)))).setCell ⟨w.heap.size+1+1,0,none⟩ (.int .i64 0)).putObj D (.deferred none)) :=
   ((Turned.setCell W1 ⟨w.heap.size+1,0,none⟩ _ (.inl rfl)).trans (Turned.setCell _ ⟨w.heap.size+1+1,0,none⟩ _ (.inr (.inl rfl)))).trans (Turned.putObj _ D _ (.inr (.inr rfl)))
  have hb9:Below n₀ w _:=hB1.trans (hY.below (by omega) (by rintro k (h | h | h) <;> omega))
  have hp1:Boxed (((W1.setCell ⟨w.heap.size+1,0,none⟩ (.string (txt (joinS xs sep)))).setCell ⟨w.heap.size+1+1,0,none⟩ (.int .i64 0)).putObj D (.deferred none)) (w.heap.size+1) 9 (.string (txt (joinS xs sep))) :=
   (World.putObj_heap_other (Ne.symm hDn.1)).trans (boxed_other (k2.set _) _ (by omega))
  have hp2:Boxed (((W1.setCell ⟨w.heap.size+1,0,none⟩ (.string (txt (joinS xs sep)))).setCell ⟨w.heap.size+1+1,0,none⟩ (.int .i64 0)).putObj D (.deferred none)) (w.heap.size+1+1) 31 (.int .i64 0) :=
   (World.putObj_heap_other (Ne.symm hDn.2)).trans ((boxed_other k3 _ (by omega)).set _)
  generalize (((W1.setCell ⟨w.heap.size+1,0,none⟩ (.string (txt (joinS xs sep)))).setCell ⟨w.heap.size+1+1,0,none⟩ (.int .i64 0)).putObj D (.deferred none))=Z9 at hp1 hp2 hb9 ⊢
  have c1:=hp1.cell
  have c2':=hp2.cell
  exact ⟨.tuple #[.string (txt (joinS xs sep)),.int .i64 0],by simp [results,Tryz.results200,go_sem,c1,c2'],by rw [HR.out],hb9⟩
 case stop =>
  rintro D X c pre U hD hXD hpre ⟨rfl,⟨h1,h2⟩,⟨hX1,hX2⟩,hB,hX,hlong⟩ hK
  have HR:Hid (togT xs sep=([],3)):=by
   show _=_
   obtain ⟨r,rfl⟩:=hpre
   have:=joinS_more pre r sep
   unfold togT
   rw [if_neg (by omega)]
  have hsz:=hB.size
  have hDn:D≠w.heap.size+1∧D≠w.heap.size+1+1:=⟨fun h=>hX1 (h ▸ hXD),fun h=>hX2 (h ▸ hXD)⟩
  have c1:=h1.cell
  have c2:=h2.cell
  gi_wp2
  refine ⟨by simp,.inl ⟨_,_,rfl,run_takeDeferred hK,?_⟩⟩
  have hY:Turned (fun k=>k=D) U (U.putObj D (.deferred none)):=Turned.putObj _ D _ rfl
  have hb9:Below n₀ w _:=hB.trans (hY.below (by omega) (by rintro k h;omega))
  have hp1:Boxed (U.putObj D (.deferred none)) (w.heap.size+1) 9 (.string ⟨#[]⟩):=(World.putObj_heap_other (Ne.symm hDn.1)).trans h1
  have hp2:Boxed (U.putObj D (.deferred none)) (w.heap.size+1+1) 31 (.int .i64 3):=(World.putObj_heap_other (Ne.symm hDn.2)).trans h2
  generalize U.putObj D (.deferred none)=Z9 at hp1 hp2 hb9 ⊢
  have c1':=hp1.cell
  have c2':=hp2.cell
  exact ⟨.tuple #[.string ⟨#[]⟩,.int .i64 3],by simp [results,Tryz.results200,go_sem,c1',c2'],by rw [HR.out];rfl,hb9⟩
end Go.Proofs.YtmfjolmfbdbegaaGreatDoor

namespace Go.Proofs.YtmfjolmfbdbegaaGreatDoor
open Go.RowKit Go.Shelf
def ToldB (w:World) (gf:Nat) (lb:Array Value) (xs:List ByteArray):Prop :=
 (∀ args W,(callFunc gf args).run Tryz.prog W=.ok (.enter gf args) W)∧∀ m,TellsB m Tryz.prog gf lb encT w.heap.size xs w
theorem ToldB.below {w w':World} {gf:Nat} {lb:Array Value} {xs:List ByteArray} (h:ToldB w gf lb xs) (hb:Below w.heap.size w w'):ToldB w' gf lb xs :=
 ⟨h.1,fun m=>(h.2 m).later hb.size (below_kept hb)⟩
theorem OfS.later {kf:Nat} {lk:Array Value} {f:ByteArray→ByteArray} {B B2:Nat} {xs:List ByteArray} {w w2:World} (h:OfS kf lk f B xs w) (hB:B≤B2) (hk:Kept (fun k=>k < B) w w2):OfS kf lk f B2 xs w2 :=
 fun x hx U hU=>h x hx U (hk.trans (hU.sub fun _ hlt=>Nat.lt_of_lt_of_le hlt hB))
theorem OfK.later {kf:Nat} {lk:Array Value} {f:ByteArray→Bool} {B B2:Nat} {xs:List ByteArray} {w w2:World} (h:OfK kf lk f B xs w) (hB:B≤B2) (hk:Kept (fun k=>k < B) w w2):OfK kf lk f B2 xs w2 :=
 fun x hx U hU=>h x hx U (hk.trans (hU.sub fun _ hlt=>Nat.lt_of_lt_of_le hlt hB))
theorem values_told (o:Option Addr) (n c:Nat) (xs:List ByteArray) (hl:n≤1000000000000) (w:World) (hr:ReadsO w w.heap.size (.slice o n c) xs) :
  Calls Tryz.prog 209 #[.slice o n c] w fun e w'=>∃ lb,e=.returned (.func (.func 227) #[] lb)∧ToldB w' 227 lb xs∧Below w.heap.size w w':=by
 refine (values_any o n c w).mono ?_
 rintro e w' ⟨rfl,rfl⟩
 have hb:Below w.heap.size w (w.alloc (.cells #[.slice o n c] 28)):=(Below.refl _ w).alloc (Nat.le_refl _) _
 have hn:n=xs.length:=by
  obtain ⟨o',c',hv,_⟩:=hr
  cases hv
  rfl
 refine ⟨_,rfl,⟨enters_of Tryz.func227 (by kernel_rfl) rfl,fun m=>?_⟩,hb⟩
 exact values1_tells m o n c xs hn w.heap.size _ _ (Boxed.new w _ _) (by simp) (Nat.le_refl _) (hr.below hb (by simp)) hl
set_option maxHeartbeats 1000000 in
theorem each_told (gf:Nat) (lb:Array Value) (kf:Nat) (lk:Array Value) (f:ByteArray→ByteArray) (xs:List ByteArray) (w:World) (h:ToldB w gf lb xs) (hk:∀ args w,(callFunc kf args).run Tryz.prog w=.ok (.enter kf args) w) (hof:OfS kf lk f w.heap.size xs w) :
  Calls Tryz.prog 210 #[.func (.func gf) #[] lb,.func (.func kf) #[] lk] w fun e w'=>∃ lb',e=.returned (.func (.func 228) #[] lb')∧ToldB w' 228 lb' (xs.map f)∧Below w.heap.size w w':=by
 have hA:Calls Tryz.prog 210 #[.func (.func gf) #[] lb,.func (.func kf) #[] lk] w fun e w'=>e=.returned (.func (.func 228) #[] #[.pointer (some ⟨w.heap.size,0,none⟩),.pointer (some ⟨w.heap.size+1,0,none⟩)]) ∧
   (w.alloc (.cells #[.func (.func gf) #[] lb] 65)).alloc (.cells #[.func (.func kf) #[] lk] 100)=w':=by
  clear h hk hof
  go_enter Tryz.func210,Tryz.ntmps210
  go_wp2
  go_ret
  exact ⟨rfl,rfl⟩
 refine hA.mono ?_
 rintro e w' ⟨rfl,rfl⟩
 have hb:Below w.heap.size w ((w.alloc (.cells #[.func (.func gf) #[] lb] 65)).alloc (.cells #[.func (.func kf) #[] lk] 100)):=((Below.refl _ w).alloc (Nat.le_refl _) _).alloc (by simp) _
 have b2:=Boxed.new (w.alloc (.cells #[.func (.func gf) #[] lb] 65)) 100 (.func (.func kf) #[] lk)
 rw [World.size_alloc] at b2
 refine ⟨_,rfl,⟨enters_of Tryz.func228 (by kernel_rfl) rfl,fun m=>?_⟩,hb⟩
 exact eachS_tells m gf lb h.1 kf lk hk f xs w.heap.size (w.heap.size+1) _ _ ((Boxed.new w _ _).alloc _) b2 (by simp;omega) (by simp) (fun m=>(h.2 m).later (by simp;omega) (below_kept hb)) (hof.later (by simp;omega) (below_kept hb))
set_option maxHeartbeats 1000000 in
theorem only_told (gf:Nat) (lb:Array Value) (kf:Nat) (lk:Array Value) (p:ByteArray→Bool) (xs:List ByteArray) (w:World) (h:ToldB w gf lb xs) (hk:∀ args w,(callFunc kf args).run Tryz.prog w=.ok (.enter kf args) w) (hof:OfK kf lk p w.heap.size xs w) :
  Calls Tryz.prog 212 #[.func (.func gf) #[] lb,.func (.func kf) #[] lk] w fun e w'=>∃ lb',e=.returned (.func (.func 229) #[] lb')∧ToldB w' 229 lb' (xs.filter p)∧Below w.heap.size w w':=by
 have hA:Calls Tryz.prog 212 #[.func (.func gf) #[] lb,.func (.func kf) #[] lk] w fun e w'=>e=.returned (.func (.func 229) #[] #[.pointer (some ⟨w.heap.size,0,none⟩),.pointer (some ⟨w.heap.size+1,0,none⟩)]) ∧
   (w.alloc (.cells #[.func (.func gf) #[] lb] 65)).alloc (.cells #[.func (.func kf) #[] lk] 23)=w':=by
  clear h hk hof
  go_enter Tryz.func212,Tryz.ntmps212
  go_wp2
  go_ret
  exact ⟨rfl,rfl⟩
 refine hA.mono ?_
 rintro e w' ⟨rfl,rfl⟩
 have hb:Below w.heap.size w ((w.alloc (.cells #[.func (.func gf) #[] lb] 65)).alloc (.cells #[.func (.func kf) #[] lk] 23)):=((Below.refl _ w).alloc (Nat.le_refl _) _).alloc (by simp) _
 have b2:=Boxed.new (w.alloc (.cells #[.func (.func gf) #[] lb] 65)) 23 (.func (.func kf) #[] lk)
 rw [World.size_alloc] at b2
 refine ⟨_,rfl,⟨enters_of Tryz.func229 (by kernel_rfl) rfl,fun m=>?_⟩,hb⟩
 exact only_tells m gf lb h.1 kf lk hk p xs w.heap.size (w.heap.size+1) _ _ ((Boxed.new w _ _).alloc _) b2 (by simp;omega) (by simp) (fun m=>(h.2 m).later (by simp;omega) (below_kept hb)) (hof.later (by simp;omega) (below_kept hb))
def ToldP (w:World) (gf:Nat) (lb:Array Value) (xs:List Pr):Prop :=
 (∀ args W,(callFunc gf args).run Tryz.prog W=.ok (.enter gf args) W)∧∀ m,TellsB m Tryz.prog gf lb encP w.heap.size xs w
theorem pairs_told (o1 o2:Option Addr) (n1 n2 c1 c2:Nat) (xs ys:List ByteArray) (hl1:n1≤1000000000) (hl2:n2≤1000000000) (w:World) (hr1:ReadsO w w.heap.size (.slice o1 n1 c1) xs) (hr2:ReadsO w w.heap.size (.slice o2 n2 c2) ys) :
  Calls Tryz.prog 223 #[.slice o1 n1 c1,.slice o2 n2 c2] w fun e w'=>∃ lb,e=.returned (.func (.func 235) #[] lb)∧ToldP w' 235 lb (pairsL xs ys)∧Below w.heap.size w w':=by
 refine (pairs_any o1 o2 n1 n2 c1 c2 w).mono ?_
 rintro e w' ⟨rfl,rfl⟩
 have hb:Below w.heap.size w ((w.alloc (.cells #[.slice o1 n1 c1] 28)).alloc (.cells #[.slice o2 n2 c2] 28)):=((Below.refl _ w).alloc (Nat.le_refl _) _).alloc (by simp) _
 have hn1:n1=xs.length:=by
  obtain ⟨o',c',hv,_⟩:=hr1
  cases hv
  rfl
 have hn2:n2=ys.length:=by
  obtain ⟨o',c',hv,_⟩:=hr2
  cases hv
  rfl
 have b2:=Boxed.new (w.alloc (.cells #[.slice o1 n1 c1] 28)) 28 (.slice o2 n2 c2)
 rw [World.size_alloc] at b2
 refine ⟨_,rfl,⟨enters_of Tryz.func235 (by kernel_rfl) rfl,fun m=>?_⟩,hb⟩
 exact pairs_tells m o1 o2 n1 n2 c1 c2 xs ys hn1 hn2 hl1 hl2 w.heap.size (w.heap.size+1) _ _ ((Boxed.new w _ _).alloc _) b2 (by simp;omega) (by simp) (Nat.le_refl _) (hr1.below hb (by simp;omega)) (hr2.below hb (by simp;omega))
set_option maxHeartbeats 1000000 in
theorem wholes_told (gf:Nat) (lb:Array Value) (xs:List Pr) (hz:∀ x∈xs,x.1.size≤10000000∧x.2.size≤10000000) (w:World) (h:ToldP w gf lb xs) :
  Calls Tryz.prog 222 #[.func (.func gf) #[] lb,.func (.func 224) #[] #[]] w fun e w'=>∃ lb',e=.returned (.func (.func 234) #[] lb')∧ToldB w' 234 lb' (xs.map fun p=>p.1++p.2)∧Below w.heap.size w w':=by
 have hA:Calls Tryz.prog 222 #[.func (.func gf) #[] lb,.func (.func 224) #[] #[]] w fun e w'=>e=.returned (.func (.func 234) #[] #[.pointer (some ⟨w.heap.size,0,none⟩),.pointer (some ⟨w.heap.size+1,0,none⟩)]) ∧
   (w.alloc (.cells #[.func (.func gf) #[] lb] 250)).alloc (.cells #[.func (.func 224) #[] #[]] 252)=w':=by
  clear h hz
  go_enter Tryz.func222,Tryz.ntmps222
  go_wp2
  go_ret
  exact ⟨rfl,rfl⟩
 refine hA.mono ?_
 rintro e w' ⟨rfl,rfl⟩
 have hb:Below w.heap.size w ((w.alloc (.cells #[.func (.func gf) #[] lb] 250)).alloc (.cells #[.func (.func 224) #[] #[]] 252)):=((Below.refl _ w).alloc (Nat.le_refl _) _).alloc (by simp) _
 have b2:=Boxed.new (w.alloc (.cells #[.func (.func gf) #[] lb] 250)) 252 (.func (.func 224) #[] #[])
 rw [World.size_alloc] at b2
 refine ⟨_,rfl,⟨enters_of Tryz.func234 (by kernel_rfl) rfl,fun m=>?_⟩,hb⟩
 exact eachP_tells m gf lb h.1 224 #[] (enters_of Tryz.func224 (by kernel_rfl) rfl) (fun p=>p.1++p.2) xs w.heap.size (w.heap.size+1) _ _ ((Boxed.new w _ _).alloc _) b2 (by simp;omega) (by simp) (fun m=>(h.2 m).later (by simp;omega) (below_kept hb))
  (fun x hx U _=>whole_any x (hz x hx).1 (hz x hx).2 U)
theorem joinS_blank (l:List BT):joinS (l.map txt) ⟨#[32]⟩=joinT l:=by
 unfold joinS joinT
 rw [List.map_map]
 congr 1
 conv=>rhs;rw [← List.map_id l]
 exact List.map_congr_left fun x _=>txt_data x
theorem tog_fin (l:List BT):togT (l.map txt) ⟨#[32]⟩=finT (some (joinT l)):=by
 unfold togT finT
 rw [joinS_blank]
theorem tog_told (gf:Nat) (lb:Array Value) (l:List BT) (hz:∀ x∈l,x.length≤10000000) (w:World) (h:ToldB w gf lb (l.map txt)) :
  Calls Tryz.prog 200 #[.func (.func gf) #[] lb,.string ⟨#[32]⟩] w fun e w'=>e=.returned (.tuple #[.string (txt (finT (some (joinT l))).1),.int .i64 (finT (some (joinT l))).2])∧Below w.heap.size w w':=by
 have:=together_any gf lb h.1 ⟨#[32]⟩ (by decide) _ _ (l.map txt) (fun x hx=>by
  obtain ⟨y,hy,rfl⟩:=List.mem_map.1 hx
  rw [txt_size];exact hz y hy) w w.heap.size (Nat.le_refl _) h.2 (fun _ h=>h.elim) (fun _ h=>h)
 rw [tog_fin] at this
 exact this
end Go.Proofs.YtmfjolmfbdbegaaGreatDoor

namespace Go.Proofs.YtmfjolmfbdbegaaGreatDoor
open Go.RowKit Go.Shelf
theorem arg_cell {w:World} {B:Nat} {o:Option Addr} {n c:Nat} {xs:List ByteArray} (hr:ReadsO w B (.slice o n c) xs) (k:Nat) (hk:k < xs.length):n=xs.length∧∃ b f,o=some ⟨b,f,none⟩∧n≤c∧w.cell? ⟨b,f+k,none⟩=some (.string (xs.getD k ⟨#[]⟩)):=by
 obtain ⟨o',c',hv,hx⟩:=hr
 cases hv
 obtain ⟨b,f,ho,_,hc,hcell⟩:=hx k xs[k] (List.getElem?_eq_getElem hk)
 refine ⟨rfl,b,f,ho,hc,?_⟩
 rw [hcell]
 simp [List.getD,hk]
set_option maxHeartbeats 1000000 in
theorem cls_subst (x:ByteArray) (hx:x.size≤10000000) (o:Option Addr) (n c:Nat) (xs:List ByteArray) (hn:2≤xs.length) (hz:∀ y∈xs,y.size≤10000000) (b B:Nat) (w:World) (hb:Boxed w b 28 (.slice o n c)) (hr:ReadsO w B (.slice o n c) xs) :
  Calls Tryz.prog 211 #[.string x,.pointer (some ⟨b,0,none⟩)] w fun e w'=>e=.returned (.string (txt (substL (xs.getD 0 ⟨#[]⟩).data.toList (xs.getD 1 ⟨#[]⟩).data.toList x.data.toList)))∧∃ m,w'=w.drewN m:=by
 obtain ⟨hnl,b0,f0,rfl,hnc,h0⟩:=arg_cell hr 0 (by omega)
 obtain ⟨_,b1,f1,e1,_,h1⟩:=arg_cell hr 1 (by omega)
 cases e1
 have hm:∀ k,(xs.getD k ⟨#[]⟩).size≤10000000:=fun k=>by
  unfold List.getD
  cases hk:xs[k]? with
  | none=>exact Nat.zero_le _
  | some y=>exact hz y (List.mem_of_getElem? hk)
 have hS:∀ w,Calls Tryz.prog 204 #[.string (xs.getD 0 ⟨#[]⟩),.string (xs.getD 1 ⟨#[]⟩),.string x] w (FillPost (substL (xs.getD 0 ⟨#[]⟩).data.toList (xs.getD 1 ⟨#[]⟩).data.toList x.data.toList) w):=fun w =>
  subst_any _ _ _ (by have:=hm 0;omega) (by have:=hm 1;omega) (by omega) w
 generalize xs.getD 0 ⟨#[]⟩=p at *
 generalize xs.getD 1 ⟨#[]⟩=q at *
 have HS:Hid (∀ m,Calls Tryz.prog 204 #[.string p,.string q,.string x] (w.drewN m) fun e w''=>e=.returned (.string (txt (substL p.data.toList q.data.toList x.data.toList)))∧∃ j,w''=w.drewN j):=fun m =>
  (hS (w.drewN m)).mono fun e w'' h=>⟨h.1,by obtain ⟨_,j,rfl⟩:=h;exact ⟨m+j,by rw [World.drewN_drewN]⟩⟩
 have hc:=hb.cell
 have hn2:2≤n:=by omega
 rw [Nat.add_zero] at h0
 clear hr hS hm hz hnl hn
 go_enter Tryz.func211,Tryz.ntmps211
 go_wp2
 go_quiet ((exact HS.out _))
 go_wp2
 go_ret
 exact ⟨rfl,_,rfl⟩
set_option maxHeartbeats 1000000 in
theorem cls_behind (x:ByteArray) (hx:x.size≤10000000) (o:Option Addr) (n c:Nat) (xs:List ByteArray) (hn:1≤xs.length) (hz:∀ y∈xs,y.size≤10000000) (b B:Nat) (w:World) (hb:Boxed w b 28 (.slice o n c)) (hr:ReadsO w B (.slice o n c) xs) :
  Calls Tryz.prog 220 #[.string x,.pointer (some ⟨b,0,none⟩)] w fun e w'=>e=.returned (.string (x++xs.getD 0 ⟨#[]⟩))∧∃ m,w'=w.drewN m:=by
 obtain ⟨hnl,b0,f0,rfl,hnc,h0⟩:=arg_cell hr 0 (by omega)
 have hm:(xs.getD 0 ⟨#[]⟩).size≤10000000:=by
  unfold List.getD
  cases hk:xs[0]? with
  | none=>exact Nat.zero_le _
  | some y=>exact hz y (List.mem_of_getElem? hk)
 generalize xs.getD 0 ⟨#[]⟩=p at *
 have hc:=hb.cell
 have hn2:1≤n:=by omega
 rw [Nat.add_zero] at h0
 clear hr hz hnl hn
 go_enter Tryz.func220,Tryz.ntmps220
 go_wp2
 go_ret
 exact ⟨rfl,0,rfl⟩
set_option maxHeartbeats 1000000 in
theorem cls_ahead (x:ByteArray) (hx:x.size≤10000000) (o:Option Addr) (n c:Nat) (xs:List ByteArray) (hn:1≤xs.length) (hz:∀ y∈xs,y.size≤10000000) (b B:Nat) (w:World) (hb:Boxed w b 28 (.slice o n c)) (hr:ReadsO w B (.slice o n c) xs) :
  Calls Tryz.prog 221 #[.string x,.pointer (some ⟨b,0,none⟩)] w fun e w'=>e=.returned (.string (xs.getD 0 ⟨#[]⟩++x))∧∃ m,w'=w.drewN m:=by
 obtain ⟨hnl,b0,f0,rfl,hnc,h0⟩:=arg_cell hr 0 (by omega)
 have hm:(xs.getD 0 ⟨#[]⟩).size≤10000000:=by
  unfold List.getD
  cases hk:xs[0]? with
  | none=>exact Nat.zero_le _
  | some y=>exact hz y (List.mem_of_getElem? hk)
 generalize xs.getD 0 ⟨#[]⟩=p at *
 have hc:=hb.cell
 have hn2:1≤n:=by omega
 rw [Nat.add_zero] at h0
 clear hr hz hnl hn
 go_enter Tryz.func221,Tryz.ntmps221
 go_wp2
 go_ret
 exact ⟨rfl,0,rfl⟩
set_option maxHeartbeats 1000000 in
theorem cls_matched (x:ByteArray) (hx:x.size≤10000000) (want:Bool) (o:Option Addr) (n c:Nat) (ps:List ByteArray) (hl:ps.length≤1000000000) (hz:∀ y∈ps,y.size≤10000000) (b1 b2 B:Nat) (w:World) (hb1:Boxed w b1 28 (.slice o n c)) (hb2:Boxed w b2 4 (.bool want)) (hr:ReadsO w B (.slice o n c) ps) :
  Calls Tryz.prog 230 #[.string x,.pointer (some ⟨b1,0,none⟩),.pointer (some ⟨b2,0,none⟩)] w fun e w'=>e=.returned (.bool (anyB ps x == want))∧∃ m,w'=w.drewN m:=by
 have hA:=fun w hr=>any_any (.slice o n c) ps x B w hr (by unfold maxLen;omega) (fun p hp=>by have:=hz p hp;unfold maxLen;omega) (by unfold maxLen;omega)
 have HS:Hid (∀ m,Calls Tryz.prog 231 #[.slice o n c,.string x] (w.drewN m) fun e w''=>e=.returned (.bool (anyB ps x))∧∃ j,w''=w.drewN j):=fun m =>
  (hA (w.drewN m) hr).mono fun e w'' h=>⟨h.1,by obtain ⟨_,j,rfl⟩:=h;exact ⟨m+j,by rw [World.drewN_drewN]⟩⟩
 have hc1:=hb1.cell
 have hc2:=hb2.cell
 clear hr hA hz
 generalize anyB ps x=r at HS ⊢
 go_enter Tryz.func230,Tryz.ntmps230
 go_wp2
 go_quiet ((exact HS.out _))
 go_wp2
 go_ret
 exact ⟨rfl,_,rfl⟩
theorem any_same {a b:List ByteArray} (h:∀ z,z∈a↔z∈b) (x:ByteArray):anyB a x=anyB b x:=by
 unfold anyB
 rw [Bool.eq_iff_iff,List.any_eq_true,List.any_eq_true]
 exact ⟨fun ⟨p,hp,h1⟩=>⟨p,(h p).1 hp,h1⟩,fun ⟨p,hp,h1⟩=>⟨p,(h p).2 hp,h1⟩⟩
theorem any_sorted (l:List BT) (x:BT):anyB ((sortT l).map txt) (txt x)=anyL l x:=by
 rw [any_same (b:=l.map txt) fun z=>by simp only [List.mem_map,sort_mem]]
 unfold anyB anyL oneB
 rw [List.any_map]
 simp only [Function.comp_def,txt_data]
set_option maxHeartbeats 2000000 in
theorem matched_any' (p:ByteArray) (hp:p.size≤10000000) (want:Bool) (w:World) :
  Calls Tryz.prog 213 #[.string p,.bool want] w fun e w'=>∃ b1 b2 o n c,e=.returned (.func (.func 230) #[] #[.pointer (some ⟨b1,0,none⟩),.pointer (some ⟨b2,0,none⟩)]) ∧
   Boxed w' b1 28 (.slice o n c)∧Boxed w' b2 4 (.bool want)∧ReadsO w' w'.heap.size (.slice o n c) ((sortT (wordsT p.data.toList)).map txt)∧Below w.heap.size w w':=by
 have hwl:=words_few p.data.toList
 rw [size_list] at hwl
 have HW:=Lib.hid (words_own p (by omega))
 have HO:Hid (∀ (v:Value) (base:Nat) (W:World),base≤W.heap.size→W.ownsRow base 9 1 v (wordsT p.data.toList).length ((wordsT p.data.toList).map encStr)→Calls Tryz.prog 214 #[v] W fun e w'=>∃ o c,e=.returned (.slice o (sortT (wordsT p.data.toList)).length c)∧ReadsO w' w'.heap.size (.slice o (sortT (wordsT p.data.toList)).length c) ((sortT (wordsT p.data.toList)).map txt)∧Below base W w') :=
  fun v base W hb h=>once_any _ (by omega) v base W hb h
 generalize (sortT (wordsT p.data.toList))=st at HO ⊢
 generalize wordsT p.data.toList=wt at HW HO hwl
 have bW:=Boxed.new w 4 (.bool want)
 have hB0:Below w.heap.size w (w.alloc (.cells #[.bool want] 4)):=(Below.refl _ w).alloc (Nat.le_refl _) _
 have hs0:(w.alloc (.cells #[.bool want] 4)).heap.size=w.heap.size+1:=by simp
 go_enter Tryz.func213,Tryz.ntmps213
 go_wp2_with fail
 refine (HW.out _).mono ?_
 rintro e w1 ⟨v,rfl,hown,hb1⟩
 go_wp2_with fail
 refine (HO.out v _ w1 hb1.size hown).mono ?_
 rintro e w2 ⟨o,c,rfl,hr2,hb2⟩
 have hb2':=hb2
 rw [hs0] at hb1 hb2
 have hsz2:w.heap.size+1≤w2.heap.size:=by have:=hb2.size;have:=hb1.size;omega
 have bW2:Boxed w2 w.heap.size 4 (.bool want):=(hb2.block _ (by omega)).trans ((hb1.block _ (by omega)).trans bW)
 have hB2:Below w.heap.size w w2:=(hB0.trans (hb1.mono (by omega))).trans (hb2.mono (by omega))
 go_wp2_with fail
 go_ret
 refine ⟨_,_,_,_,_,rfl,Boxed.new _ _ _,bW2.alloc _,hr2.below ((Below.refl _ w2).alloc (Nat.le_refl _) _) (by simp),hB2.alloc (by omega) _⟩
end Go.Proofs.YtmfjolmfbdbegaaGreatDoor

namespace Go.Proofs.YtmfjolmfbdbegaaGreatDoor
open Go.RowKit Go.Shelf Go.Sort
def ListPost (w:World) (l:List BT) (e:Ending) (w':World):Prop:=∃ gf lb,e=.returned (.func (.func gf) #[] lb)∧ToldB w' gf lb (l.map txt)∧Below w.heap.size w w'
theorem ne_filter (l:List BT):(l.map txt).filter isWord=(neT l).map txt:=by
 unfold neT
 rw [List.filter_map]
 congr 1
 refine List.filter_congr fun x _=>?_
 simp only [Function.comp,isWord,txt_toL]
 cases x <;> rfl
theorem reads_part {W:World} {B:Nat} {o:Option Addr} {n c:Nat} {l:List BT} (h:ReadsO W B (.slice o n c) (l.map txt)) (i j:Nat) (hij:i≤j) (hj:j≤n) :
  ReadsO W B (.slice (o.map fun a=>a.add i) (j - i) (c - i)) (((l.take j).drop i).map txt):=by
 obtain ⟨o',c',hv,hx⟩:=h
 cases hv
 have hn:(l.map txt).length=l.length:=by simp
 rw [hn] at hj
 refine ⟨_,_,by rw [List.length_map,List.length_drop,List.length_take,Nat.min_eq_left hj],fun k x hk=>?_⟩
 have hkl:k < j - i:=by
  have:=(List.getElem?_eq_some_iff.1 hk).1
  rw [List.length_map,List.length_drop,List.length_take] at this
  omega
 have hk':(l.map txt)[i+k]? = some x:=by
  rw [List.getElem?_map,List.getElem?_drop,List.getElem?_take_of_lt (by omega)] at hk
  rw [List.getElem?_map]
  exact hk
 obtain ⟨b,f,rfl,hlt,hc,hcell⟩:=hx (i+k) x hk'
 refine ⟨b,f+i,by simp [Addr.add_lit],hlt,?_,by rw [Nat.add_assoc];exact hcell⟩
 rw [List.length_map,List.length_drop,List.length_take]
 rw [hn] at hc
 omega
theorem reads_front {W:World} {B:Nat} {o:Option Addr} {n c:Nat} {l:List BT} (h:ReadsO W B (.slice o n c) (l.map txt)) (j:Nat) (hj:j≤n) :
  ReadsO W B (.slice o j c) ((l.take j).map txt):=by
 have:=reads_part h 0 j (Nat.zero_le _) hj
 rw [List.drop_zero,Nat.sub_zero,Nat.sub_zero] at this
 have e:(o.map fun a=>a.add 0)=o:=by cases o with
  | none=>rfl
  | some a=>cases a with
   | mk bb ff pp=>cases pp <;> simp [Addr.add]
 rw [e] at this
 exact this
theorem owns_cap {W:World} {base:Nat} {o:Option Addr} {n c:Nat} {l:List BT} (h:W.ownsRow base 9 1 (.slice o n c) l.length (l.map encStr)):n≤c:=by
 rcases h.2 with ⟨hv,_⟩ | ⟨g,cap,cur,hv,_,_,h1,_⟩
 ·cases hv;exact Nat.le_refl _
 ·cases hv;exact h1
end Go.Proofs.YtmfjolmfbdbegaaGreatDoor

namespace Go.Proofs.YtmfjolmfbdbegaaGreatDoor
open Go.RowKit Go.Shelf
attribute [local go_sem] Oper.semAt_some
set_option maxHeartbeats 400000 in
theorem splitSeq_any (s a:ByteArray) (w:World):Calls Tryz.prog 206 #[.string s,.string a] w fun e w' =>
  e=.returned (.func (.func 241) #[] #[.pointer (some ⟨w.heap.size+1,0,none⟩),.pointer (some ⟨w.heap.size,0,none⟩),.pointer (some ⟨w.heap.size+1+1,0,none⟩)]) ∧
  ((w.alloc (.cells #[.string s] 9)).alloc (.cells #[.string a] 9)).alloc (.cells #[.int .i64 0] 3)=w':=by
 go_enter Tryz.func206,Tryz.ntmps206
 go_wp2
 go_ret
 exact ⟨rfl,rfl⟩
def strAt (w:World) (b:Nat):Nat:=match w.cell? ⟨b,0,none⟩ with
 | some (.string r)=>r.size
 | _=>0
theorem strAt_is {w:World} {b:Nat} {t:TypeId} {r:ByteArray} (h:Boxed w b t (.string r)):strAt w b=r.size:=by unfold strAt;rw [h.cell]
theorem boxed_off {W:World} {B b:Nat} {t:TypeId} {v:Value} (h:Boxed W B t v) (v':Value) (hne:B≠b):Boxed (W.setCell ⟨b,0,none⟩ v') B t v :=
 h.kept (grownBy_setCell' W b v') (by intro e;exact hne (Option.some.inj e))
set_option maxRecDepth 100000 in
set_option maxHeartbeats 2000000 in
theorem split_tells (n:Nat) (a s:ByteArray) (ha:a.data.toList≠[]) (hs:s.size≤10000000) (has:a.size≤10000000) (n₀ bp bs bv:Nat) (hps:bp≠bs) (hvs:bv≠bs) (w:World)
  (hst:∀ W,Kept (fun k=>k < n₀) w W→Std W) (hbp:Boxed w bp 9 (.string a)) (hbs:Boxed w bs 9 (.string s)) (hbv:Boxed w bv 3 (.int .i64 0)) :
  TellsY n Tryz.prog 241 #[.pointer (some ⟨bp,0,none⟩),.pointer (some ⟨bs,0,none⟩),.pointer (some ⟨bv,0,none⟩)] encT (fun k=>k < n₀) (fun j=>j=bp∨j=bs∨j=bv) ((spl a.data.toList s.data.toList).map txt) w:=by
 intro l J Jx W hW hJ hJx hKY hY h0
 have hB1:=hW.boxed hbp (.inl rfl)
 have hB2:=hW.boxed hbs (.inr (.inl rfl))
 have hB3:=hW.boxed hbv (.inr (.inr rfl))
 have hap:0 < a.size:=by rw [← size_list];exact List.length_pos_iff.2 ha
 have HA:=Lib.hid ha
 clear ha
 refine callsIn_of_wp Tryz.func241 rfl trivial ?_ rfl
 simp only [Tryz.ntmps241,List.size_toArray,List.length_cons,List.length_nil,Nat.reduceAdd,Nat.reduceSub,Array.replicate_succ,Array.replicate_zero,List.push_toArray,List.append_toArray,List.nil_append,List.cons_append]
 have hc1:=hB1.cell
 have hc2:=hB2.cell
 have hc3:=hB3.cell
 have e0:((a.size:Int) == 0)=false:=by rw [beq_eq_false_iff_ne];omega
 gi_wp2
 gi_loopw [7] (fun _ wr=>∃ (r:ByteArray) (pre:List ByteArray),r.size≤s.size∧(spl a.data.toList s.data.toList).map txt=pre++(spl a.data.toList r.data.toList).map txt ∧
   Boxed wr bp 9 (.string a)∧Boxed wr bs 9 (.string r)∧Boxed wr bv 3 (.int .i64 0)∧J (fun j=>j=bp∨j=bs∨j=bv) pre wr)
  (fun _ wr=>strAt wr bs)
 case atStart=>exact ⟨s,[],Nat.le_refl _,by simp,hB1,hB2,hB3,h0⟩
 case round =>
  obtain ⟨r,pre,hrs,hp,hr1,hr2,hr3,hJs⟩:=hrel
  have hm:=strAt_is hr2
  have hc4:=hr1.cell
  have hc5:=hr2.cell
  have hc6:=hr3.cell
  obtain ⟨mx,hmx⟩:=(hst _ (hKY _ _ _ hJs)).mx
  have HI:=libIndex r a mx wr (by omega) hmx
  rcases Lib.index_spec r.data.toList a.data.toList with ⟨hi,_⟩ | ⟨o,ho,_,_,_⟩
  ·rw [hi] at HI
   have HIx:=Lib.hid HI
   have hpx:(spl a.data.toList s.data.toList).map txt=pre++[r]:=by rw [hp,spl_none (by omega)];simp [txt_toList]
   have hR0:=hY _ pre r _ hJs (by rw [hpx];exact List.prefix_refl _)
   obtain ⟨fn,tmps,assign,body,hy,hR⟩:=hR0
   have HP:=Lib.hid hpx
   have HR:=Lib.hid hR
   clear hpx hp hR hi HI hmx
   gi_wp2
   refine ⟨trivial,(fun h=>(by cases h)),(callsIn_wide.2 HIx.out).mono ?_⟩
   rintro e w' ⟨rfl,rfl⟩
   gi_wp2
   refine ⟨(fun h=>(by cases h)),(RoundIn.depth HR.out).mono ?_⟩
   rintro e W3 ⟨hk3,(⟨rfl,hJ3⟩ | ⟨rfl,hJx3⟩)⟩
   ·gi_wp2
    go_end0
    exact ⟨⟨_,rfl⟩,_,.inl (by rw [HP.out];exact hJ3)⟩
   ·gi_wp2
    go_end0
    exact ⟨⟨_,rfl⟩,_,.inr ⟨pre++[r],by rw [HP.out];exact List.prefix_refl _,hJx3⟩⟩
  ·have hroom:=Lib.index_room r.data.toList a.data.toList (by omega)
   rw [ho,size_list,size_list] at hroom
   rw [ho] at HI
   have HIx:=Lib.hid HI
   have hcut:=spl_some HA.out ho
   rw [size_list] at hcut
   have hA:r.extract 0 o=txt (r.data.toList.take o):=by rw [extract_txt,List.drop_zero,Nat.sub_zero]
   have hB:(r.extract (o+a.size) r.size).data.toList=r.data.toList.drop (o+a.size):=Lib.extract_to_end r (o+a.size)
   have hBz:(r.extract (o+a.size) r.size).size=r.size - (o+a.size):=by rw [ByteArray.size_extract];omega
   have hpx:(spl a.data.toList s.data.toList).map txt=(pre++[r.extract 0 o])++(spl a.data.toList (r.extract (o+a.size) r.size).data.toList).map txt:=by
    rw [hp,hcut,hA,hB];simp
   have hR0:=hY _ pre (r.extract 0 o) _ hJs ⟨_,hpx.symm⟩
   obtain ⟨fn,tmps,assign,body,hy,hR⟩:=hR0
   have HP:=Lib.hid hpx
   have HR:=Lib.hid hR
   have ho1:o≤r.size:=by omega
   have ho2:o+a.size≤r.size:=by omega
   clear hpx hp hR hA hB hcut ho hmx HI
   gi_wp2
   refine ⟨trivial,(fun h=>(by cases h)),(callsIn_wide.2 HIx.out).mono ?_⟩
   rintro e w' ⟨rfl,rfl⟩
   gi_wp2
   refine ⟨(fun h=>(by cases h)),(RoundIn.depth HR.out).mono ?_⟩
   rintro e W3 ⟨hk3,(⟨rfl,hJ3⟩ | ⟨rfl,hJx3⟩)⟩
   ·have hq1:=hk3.boxed hr1 (.inl rfl)
    have hq2:=hk3.boxed hr2 (.inr (.inl rfl))
    have hq3:=hk3.boxed hr3 (.inr (.inr rfl))
    have hc7:=hq1.cell
    have hc8:=hq2.cell
    have hf8:=hq2.frozen
    have hJ4:=hJ _ _ _ _ _ hJ3 (Turned.setCell W3 ⟨bs,0,none⟩ (.string (r.extract (o+a.size) r.size)) (.inr (.inl rfl))) (fun k h=>.inl h)
    have hz:=strAt_is (hq2.set (.string (r.extract (o+a.size) r.size)))
    have HZ:=Lib.hid hz
    have HM:=Lib.hid hm
    clear hz hm
    gi_wp2
    go_roundw
    case rel=>exact ⟨_,_,by omega,HP.out,boxed_off hq1 _ hps,hq2.set _,boxed_off hq3 _ hvs,hJ4⟩
    case measure=>rw [HZ.out,HM.out];omega
   ·gi_wp2
    refine bodyPost_ret (results_none rfl _ _ _) rfl ?_
    exact ⟨⟨_,rfl⟩,_,.inr ⟨pre++[r.extract 0 o],⟨_,HP.out.symm⟩,hJx3⟩⟩
end Go.Proofs.YtmfjolmfbdbegaaGreatDoor

namespace Go.Proofs.YtmfjolmfbdbegaaGreatDoor
open Go.RowKit Go.Shelf
theorem tog_sub (a b t:BT) (ha:a≠[]):togT ((spl a t).map txt) (txt b)=finT (some (subT a b t)):=by
 unfold togT finT
 have e:joinS ((spl a t).map txt) (txt b)=subT a b t:=by
  unfold joinS
  rw [← spl_subT a b t ha,List.map_map,txt_data]
  congr 1
  conv=>rhs;rw [← List.map_id (spl a t)]
  exact List.map_congr_left fun x _=>txt_data x
 rw [e]
set_option maxRecDepth 100000 in
set_option maxHeartbeats 2000000 in
theorem subst_any' (a b t:ByteArray) (ha:a.size≤1000000) (hb:b.size≤1000000) (ht:t.size≤1000000) (w:World) (hst:Std w) :
  Calls Tryz.prog 196 #[.string a,.string b,.string t] w fun e w'=>e=.returned (.tuple #[.string (txt (finT (some (subT a.data.toList b.data.toList t.data.toList))).1),.int .i64 (finT (some (subT a.data.toList b.data.toList t.data.toList))).2])∧Below w.heap.size w w':=by
 by_cases h0:a.toList=[]
 ·have HV:Hid (subT a.data.toList b.data.toList t.data.toList=t.data.toList):=by
   show _=_
   rw [Lib.toList_data] at h0
   unfold subT
   rw [if_pos h0]
  have HS:=Lib.hid (short_any t (by omega))
  go_enter Tryz.func196,Tryz.ntmps196
  go_wp2_with (go_at_call 198;refine (HS.out _).mono ?_;rintro e w' ⟨rfl,rfl⟩)
  go_ret2
  exact ⟨by rw [HV.out];rfl,Below.refl _ _⟩
 have h1:a.toList.isEmpty=false:=by simpa using h0
 have hne:a.data.toList≠[]:=by rw [Lib.toList_data] at h0;exact h0
 have bS:=Boxed.new w 9 (.string t)
 have bA:=Boxed.new (w.alloc (.cells #[.string t] 9)) 9 (.string a)
 have bV:=Boxed.new ((w.alloc (.cells #[.string t] 9)).alloc (.cells #[.string a] 9)) 3 (.int .i64 0)
 simp only [World.size_alloc] at bA bV
 have hB:Below w.heap.size w (((w.alloc (.cells #[.string t] 9)).alloc (.cells #[.string a] 9)).alloc (.cells #[.int .i64 0] 3)) :=
  (((Below.refl _ w).alloc (Nat.le_refl _) _).alloc (by simp) _).alloc (by simp;omega) _
 have hs3:(((w.alloc (.cells #[.string t] 9)).alloc (.cells #[.string a] 9)).alloc (.cells #[.int .i64 0] 3)).heap.size=w.heap.size+3:=by simp
 have bS':=(bS.alloc (.cells #[.string a] 9)).alloc (.cells #[.int .i64 0] 3)
 have bA':=bA.alloc (.cells #[.int .i64 0] 3)
 have hsl:=spl_len a.data.toList hne _ t.data.toList (Nat.le_refl _)
 rw [size_list] at hsl
 have HT:Hid (Calls Tryz.prog 200 #[.func (.func 241) #[] #[.pointer (some ⟨w.heap.size+1,0,none⟩),.pointer (some ⟨w.heap.size,0,none⟩),.pointer (some ⟨w.heap.size+1+1,0,none⟩)],.string b]
   (((w.alloc (.cells #[.string t] 9)).alloc (.cells #[.string a] 9)).alloc (.cells #[.int .i64 0] 3)) fun e w'=>e=.returned (.tuple #[.string (txt (finT (some (subT a.data.toList b.data.toList t.data.toList))).1),.int .i64 (finT (some (subT a.data.toList b.data.toList t.data.toList))).2])∧Below w.heap.size w w'):=by
  have h9:=together_any 241 #[.pointer (some ⟨w.heap.size+1,0,none⟩),.pointer (some ⟨w.heap.size,0,none⟩),.pointer (some ⟨w.heap.size+1+1,0,none⟩)] (enters_of Tryz.func241 (by kernel_rfl) rfl) b (by omega)
   (fun k=>k < w.heap.size) (fun j=>j=w.heap.size+1∨j=w.heap.size∨j=w.heap.size+1+1) ((spl a.data.toList t.data.toList).map txt) (fun x hx=>by
    obtain ⟨y,hy,rfl⟩:=List.mem_map.1 hx
    rw [txt_size]
    have:=hsl y hy
    omega) _ w.heap.size (by rw [hs3];omega)
   (fun n=>split_tells n a t hne (by omega) (by omega) w.heap.size _ _ _ (by omega) (by omega) _ (fun W hW=>hst.kept ((below_kept hB).trans hW) (Nat.le_refl _)) bA' bS' bV) (by rintro k (rfl | rfl | rfl) <;> omega) (fun _ h=>h)
  have e:=tog_sub a.data.toList b.data.toList t.data.toList hne
  rw [txt_toList] at e
  rw [e] at h9
  exact h9.mono fun e w' h=>⟨h.1,hB.trans h.2⟩
 clear h0 hne bS bA bV hB hs3 bS' bA' hsl hst
 go_enter Tryz.func196,Tryz.ntmps196
 go_wp2_with fail
 refine (splitSeq_any t a w).mono ?_
 rintro e w' ⟨rfl,rfl⟩
 go_wp2_with fail
 refine HT.out.mono ?_
 rintro e w' ⟨rfl,hb9⟩
 go_wp2_with fail
 go_ret2
 exact ⟨rfl,hb9⟩
set_option maxHeartbeats 1000000 in
theorem findstring_any (a t:ByteArray) (ha:a.size≤1000000) (ht:t.size≤1000000) (w:World) (hst:Std w) :
  Calls Tryz.prog 197 #[.string a,.string t] w fun e w'=>e=.returned (.tuple #[.string (txt (finT (some (if foundB a.data.toList t.data.toList=true then a.data.toList else []))).1),.int .i64 (finT (some (if foundB a.data.toList t.data.toList=true then a.data.toList else []))).2])∧w'=w:=by
 obtain ⟨m,hm⟩:=hst.mx
 have hC:=libContains t a m w (by omega) hm
 have hF:Lib.contains t.data.toList a.data.toList=foundB a.data.toList t.data.toList:=by rw [found_index];rfl
 rw [hF] at hC
 have HS:=Lib.hid (short_any a (by omega))
 cases hf:foundB a.data.toList t.data.toList with
 | true =>
  rw [hf] at hC
  have HC:=Lib.hid hC
  rw [if_pos rfl]
  clear hC hF hf hm
  go_enter Tryz.func197,Tryz.ntmps197
  go_wp2_with (first
   | (go_at_call 207;refine HC.out.mono ?_;rintro e w' ⟨rfl,rfl⟩)
   | (go_at_call 198;refine (HS.out _).mono ?_;rintro e w' ⟨rfl,rfl⟩))
  go_ret2
  exact ⟨rfl,rfl⟩
 | false =>
  rw [hf] at hC
  have HC:=Lib.hid hC
  rw [if_neg (by simp)]
  clear hC hF hf hm
  go_enter Tryz.func197,Tryz.ntmps197
  go_wp2_with (go_at_call 207;refine HC.out.mono ?_;rintro e w' ⟨rfl,rfl⟩)
  go_ret2
  exact ⟨rfl,rfl⟩
end Go.Proofs.YtmfjolmfbdbegaaGreatDoor

namespace Go.Proofs.YtmfjolmfbdbegaaGreatDoor
open Go.RowKit Go.Shelf
theorem numV_bd (l:BT):0≤numV l∧numV l≤1000000000:=by
 unfold numV
 split
 ·next h =>
  have h2:=h
  unfold numB at h
  simp only [Bool.and_eq_true,decide_eq_true_eq] at h
  obtain ⟨⟨⟨_,h9⟩,_⟩,hd⟩:=h
  have:=numVal_bd l hd
  have hp:(10:Int) ^ l.length≤1000000000:=by
   have hc:l.length=0∨l.length=1∨l.length=2∨l.length=3∨l.length=4∨l.length=5∨l.length=6∨l.length=7∨l.length=8∨l.length=9:=by omega
   rcases hc with h | h | h | h | h | h | h | h | h | h <;> rw [h] <;> decide
  omega
 ·omega
theorem some_part (l:List BT) (A Bn:Nat):someN A Bn l=(l.take (min Bn l.length)).drop (min (A - 1) (min Bn l.length)):=by
 unfold someN
 have e1:l.take (min Bn l.length)=l.take Bn:=by
  by_cases h:Bn≤l.length
  ·rw [Nat.min_eq_left h]
  ·rw [Nat.min_eq_right (by omega),List.take_length,List.take_of_length_le (by omega)]
 rw [e1]
 by_cases h:A - 1≤min Bn l.length
 ·rw [Nat.min_eq_left h]
 ·rw [Nat.min_eq_right (by omega),List.drop_eq_nil_of_le (by rw [List.length_take];omega),List.drop_eq_nil_of_le (by rw [List.length_take];exact Nat.le_refl _)]
set_option maxRecDepth 100000 in
set_option maxHeartbeats 4000000 in
theorem wordlist_any (a b t:ByteArray) (ha:a.size≤1000000) (hb:b.size≤1000000) (ht:t.size≤1000000) (w:World) :
  Calls Tryz.prog 199 #[.string a,.string b,.string t] w fun e w'=>e=.returned (.tuple #[.string (txt (finT (wordT a.data.toList b.data.toList t.data.toList)).1),.int .i64 (finT (wordT a.data.toList b.data.toList t.data.toList)).2])∧Below w.heap.size w w':=by
 have hTa:=fun W=>trim_any a (by unfold maxLen;omega) W
 have hTb:=fun W=>trim_any b (by unfold maxLen;omega) W
 have hla:=trim_len a.data.toList
 have hlb:=trim_len b.data.toList
 rw [size_list] at hla hlb
 have hba:=numV_bd (trimOf a.data.toList)
 have hbb:=numV_bd (trimOf b.data.toList)
 have hF:wordT a.data.toList b.data.toList t.data.toList=if numB (trimOf a.data.toList)=true∧numB (trimOf b.data.toList)=true∧1≤numV (trimOf a.data.toList) then some (joinT (someN (numV (trimOf a.data.toList)).toNat (numV (trimOf b.data.toList)).toNat (wordsT t.data.toList))) else none:=rfl
 generalize wordT a.data.toList b.data.toList t.data.toList=F at hF ⊢
 generalize trimOf a.data.toList=ta at *
 generalize trimOf b.data.toList=tb at *
 have HTa:=Lib.hid hTa
 have HTb:=Lib.hid hTb
 have HNa:Hid (∀ W,Calls Tryz.prog 208 #[.string (txt ta)] W fun e w'=>e=.returned (.tuple #[.int .i64 (numV ta),.bool (numB ta)])∧W=w'):=fun W=>by
  have:=number_any (txt ta) (by rw [txt_size];unfold maxLen;omega) W
  unfold NumPost at this
  rw [txt_data] at this
  exact this
 have HNb:Hid (∀ W,Calls Tryz.prog 208 #[.string (txt tb)] W fun e w'=>e=.returned (.tuple #[.int .i64 (numV tb),.bool (numB tb)])∧W=w'):=fun W=>by
  have:=number_any (txt tb) (by rw [txt_size];unfold maxLen;omega) W
  unfold NumPost at this
  rw [txt_data] at this
  exact this
 clear hTa hTb hla hlb
 generalize numV ta=va at *
 generalize numV tb=vb at *
 generalize numB ta=pa at *
 generalize numB tb=pb at *
 have HW:=Lib.hid (words_own t (by omega))
 have HT:Hid (∀ x∈wordsT t.data.toList,x.length≤10000000):=fun x hx=>by
  have:=(words_memT hx).2
  rw [size_list] at this
  omega
 have hwl:=words_few t.data.toList
 rw [size_list] at hwl
 obtain ⟨A,rfl⟩:∃ A:Nat,va=(A:Int):=⟨va.toNat,by omega⟩
 obtain ⟨Bn,rfl⟩:∃ Bn:Nat,vb=(Bn:Int):=⟨vb.toNat,by omega⟩
 rw [Int.toNat_natCast,Int.toNat_natCast] at hF
 generalize wordsT t.data.toList=ws at *
 have bad:∀ W,Below w.heap.size w W→¬ (pa=true∧pb=true∧1≤(A:Int))→Hid ((Ending.returned (.tuple #[.string ⟨#[]⟩,.int .i64 1]))=.returned (.tuple #[.string (txt (finT F).1),.int .i64 (finT F).2])∧Below w.heap.size w W):=fun W hB hn=>by
  rw [hF,if_neg hn]
  exact ⟨rfl,hB⟩
 have HF:=Lib.hid hF
 clear hF
 go_enter Tryz.func199,Tryz.ntmps199
 go_wp2_with fail
 refine (HTa.out w).mono ?_
 rintro e w1 ⟨rfl,hb1⟩
 go_wp2_with fail
 refine (HNa.out w1).mono ?_
 rintro e _ ⟨rfl,rfl⟩
 go_wp2_with fail
 refine (HTb.out w1).mono ?_
 rintro e w2 ⟨rfl,hb2⟩
 go_wp2_with fail
 refine (HNb.out w2).mono ?_
 rintro e _ ⟨rfl,rfl⟩
 have hB2:Below w.heap.size w w2:=hb1.trans (hb2.mono hb1.size)
 cases pa with
 | false =>
  have hbad:=bad w2 hB2 (by simp)
  clear bad
  go_wp2_with fail
  go_ret2
  exact hbad.out
 | true =>
 cases pb with
 | false =>
  have hbad:=bad w2 hB2 (by simp)
  clear bad
  go_wp2_with fail
  go_ret2
  exact hbad.out
 | true =>
 by_cases hA0:A=0
 ·have hbad:=bad w2 hB2 (by omega)
  subst hA0
  clear bad
  go_wp2_with fail
  go_ret2
  exact hbad.out
 have hFv:Hid (F=some (joinT (someN A Bn ws))):=by
  show _=_
  rw [HF.out,if_pos ⟨rfl,rfl,by omega⟩]
 have hA1:((A:Int) == 0)=false:=by rw [beq_eq_false_iff_ne];omega
 clear bad HF
 go_wp2_with fail
 refine (HW.out w2).mono ?_
 rintro e w3 ⟨v1,rfl,hown,hb3⟩
 have hrd:=owns_reads hown
 obtain ⟨o1,n1,c1,rfl,hn1⟩:∃ o1 n1 c1,v1=.slice o1 n1 c1∧n1=ws.length:=by
  obtain ⟨o',c',hv,_⟩:=hrd
  exact ⟨o',_,c',hv,by rw [List.length_map]⟩
 have hcap:=owns_cap hown
 have hn1b:n1≤1000001:=by omega
 obtain ⟨ee,hE,hee⟩:∃ ee:Nat,min (Bn:Int) (n1:Int)=(ee:Int)∧ee=min Bn n1:=⟨min Bn n1,by omega,rfl⟩
 obtain ⟨ss,hS,hss⟩:∃ ss:Nat,min ((A:Int) - 1) (ee:Int)=(ss:Int)∧ss=min (A - 1) ee:=⟨min (A - 1) ee,by omega,rfl⟩
 have hse:ss≤ee:=by omega
 have hen:ee≤n1:=by omega
 have hB3:Below w.heap.size w w3:=hB2.trans (hb3.mono hB2.size)
 have hz3:=hB3.size
 have hsome:someN A Bn ws=(ws.take ee).drop ss:=by
  rw [some_part,hss,hee,hn1]
 have HV:Hid (F=some (joinT ((ws.take ee).drop ss))):=by
  show _=_
  rw [hFv.out,hsome]
 have HL:Hid (∀ x∈(ws.take ee).drop ss,x.length≤10000000):=fun x hx=>HT.out x (List.mem_of_mem_take (List.mem_of_mem_drop hx))
 have HE:Hid (ee=ss→(ws.take ee).drop ss=[]):=fun h=>List.drop_eq_nil_of_le (by rw [List.length_take];omega)
 have hsc:ss≤c1:=by omega
 have hec:ee≤c1:=by omega
 have hrs:=reads_part hrd ss ee hse hen
 clear hn1 hee hss hsome hown hrd hFv
 by_cases hlt:ss < ee
 ·have hck:¬ c1=ss:=by omega
  go_wp2_with fail
  refine (values_told _ _ _ _ (by omega) w3 hrs).mono ?_
  rintro e w4 ⟨l4,rfl,hT4,hb4⟩
  go_wp2_with fail
  refine (tog_told _ l4 _ HL.out w4 hT4).mono ?_
  rintro e w5 ⟨rfl,hb5⟩
  have hz4:=hb4.size
  have hB5:Below w.heap.size w w5:=(hB3.trans (hb4.mono hz3)).trans (hb5.mono (by omega))
  go_wp2_with fail
  go_ret2
  exact ⟨by rw [HV.out];rfl,hB5⟩
 ·have hes:ee=ss:=by omega
  have hnil:=HE.out hes
  rw [hnil] at HV
  have hE0:∀ (o':Option Addr) (c':Nat),ReadsO w3 w3.heap.size (.slice o' 0 c') (([]:List BT).map txt):=fun o' c'=>⟨o',c',rfl,by simp⟩
  subst hes
  clear hnil hrs HE HL
  by_cases hck:c1=ee
  ·subst hck
   go_wp2_with fail
   refine (values_told _ _ _ _ (by omega) w3 (by first | exact hE0 _ _ | (rw [Nat.sub_self];exact hE0 _ _))).mono ?_
   rintro e w4 ⟨l4,rfl,hT4,hb4⟩
   go_wp2_with fail
   refine (tog_told _ l4 _ (by simp) w4 hT4).mono ?_
   rintro e w5 ⟨rfl,hb5⟩
   have hz4:=hb4.size
   have hB5:Below w.heap.size w w5:=(hB3.trans (hb4.mono hz3)).trans (hb5.mono (by omega))
   go_wp2_with fail
   go_ret2
   exact ⟨by rw [HV.out];rfl,hB5⟩
  ·go_wp2_with fail
   refine (values_told _ _ _ _ (by omega) w3 (by first | exact hE0 _ _ | (rw [Nat.sub_self];exact hE0 _ _))).mono ?_
   rintro e w4 ⟨l4,rfl,hT4,hb4⟩
   go_wp2_with fail
   refine (tog_told _ l4 _ (by simp) w4 hT4).mono ?_
   rintro e w5 ⟨rfl,hb5⟩
   have hz4:=hb4.size
   have hB5:Below w.heap.size w w5:=(hB3.trans (hb4.mono hz3)).trans (hb5.mono (by omega))
   go_wp2_with fail
   go_ret2
   exact ⟨by rw [HV.out];rfl,hB5⟩
end Go.Proofs.YtmfjolmfbdbegaaGreatDoor
