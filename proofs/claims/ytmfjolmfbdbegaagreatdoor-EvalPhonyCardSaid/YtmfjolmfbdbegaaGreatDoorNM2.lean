/-
  What each tells: what its function makes of each that it is told. No condition.
  What pairs tells: of two lists the words one by one, to the end of the longer one. For lists of at most a thousand million texts. No condition.
-/
import Derived.Test.YtmfjolmfbdbegaaGreatDoorNI
import Derived.Test.YtmfjolmfbdbegaaGreatDoorNM1
namespace Go.Proofs.YtmfjolmfbdbegaaGreatDoor
open Go.RowKit Go.Shelf
attribute [local go_sem] Oper.semAt_some
def OfS (kf:Nat) (lk:Array Value) (f:ByteArray→ByteArray) (B:Nat) (xs:List ByteArray) (w:World):Prop :=
 ∀ x∈xs,∀ U,Kept (fun k=>k < B) w U→Calls Tryz.prog kf (encT x++lk) U fun e w'=>e=.returned (.string (f x))∧∃ n,w'=U.drewN n
set_option maxRecDepth 100000 in
set_option maxHeartbeats 4000000 in
theorem eachS_tells (n:Nat) (gf:Nat) (lb:Array Value) (hg:∀ args w,(callFunc gf args).run Tryz.prog w=.ok (.enter gf args) w) (kf:Nat) (lk:Array Value) (hk:∀ args w,(callFunc kf args).run Tryz.prog w=.ok (.enter kf args) w)
  (f:ByteArray→ByteArray) (xs:List ByteArray) (b1 b2 B:Nat) (w:World) (hb1:Boxed w b1 65 (.func (.func gf) #[] lb)) (hb2:Boxed w b2 100 (.func (.func kf) #[] lk)) (h1:b1 < B) (h2:b2 < B)
  (hin:∀ m,TellsB m Tryz.prog gf lb encT B xs w) (hof:OfS kf lk f B xs w) :
  TellsB n Tryz.prog 228 #[.pointer (some ⟨b1,0,none⟩),.pointer (some ⟨b2,0,none⟩)] encT B (xs.map f) w:=by
 intro l J Jx W hW hJ hJx hY hR h0
 have hk0:=hY _ _ _ h0
 have hB1:=hk0.boxed hb1 h1
 refine callsIn_of_wp_marks Tryz.func228 rfl trivial ?_ rfl
 simp only [Tryz.ntmps228,List.size_toArray,List.length_cons,List.length_nil,Nat.reduceAdd,Nat.reduceSub,Array.replicate_succ,Array.replicate_zero,List.push_toArray,List.append_toArray,List.nil_append,List.cons_append]
 have hlt1:=hB1.lt
 have hc1:=(hB1.alloc (.cells #[.func (.yield l) #[] #[]] 23)).cell
 gi_wp2
 have bY:=Boxed.new W 23 (.func (.yield l) #[] #[])
 have ht:=Turned.alloc (fun _:Nat=>False) W (.cells #[.func (.yield l) #[] #[]] 23)
 have hV:(W.alloc (.cells #[.func (.yield l) #[] #[]] 23)).heap.size=W.heap.size+1:=by simp
 clear hc1
 generalize W.alloc (.cells #[.func (.yield l) #[] #[]] 23)=V at bY ht hV ⊢
 have hI0:Abides' (fun X (pre:List ByteArray) U=>J (fun k=>X k∨k=W.heap.size) (pre.map f) U∧Boxed U W.heap.size 23 (.func (.yield l) #[] #[])∧¬ X W.heap.size):=by
  rintro X X' pre A B ⟨hj,hb,hx⟩ hT hsub
  refine ⟨hJ _ _ _ _ _ hj (hT.wider fun k h=>.inl h) ?_,hT.boxed hb hx,fun h=>?_⟩
  ·rintro k (h | h)
   ·rcases hsub k h with h | h
    ·exact .inl (.inl h)
    ·exact .inr h
   ·exact .inl (.inr h)
  ·rcases hsub _ h with h | h
   ·exact hx h
   ·have:=hb.lt;omega
 have hIx0:∀ c,Abides' (fun X (_:List ByteArray) U=>c=Code.ret∧∃ q,q <+: xs.map f∧Jx (fun k=>X k∨k=W.heap.size) q U):=by
  rintro c X X' pre A B ⟨hc,q,hq,hj⟩ hT hsub
  refine ⟨hc,q,hq,hJx _ _ _ _ _ hj (hT.wider fun k h=>.inl h) ?_⟩
  rintro k (h | h)
  ·rcases hsub k h with h | h
   ·exact .inl (.inl h)
   ·exact .inr h
  ·exact .inl (.inr h)
 refine wpIn_rangeY (gf:=gf) rfl hg (hin (n - 1)) (kept_none (by have:=hW.size;omega)) (fun _ h=>h.elim) (fun _=>rfl)
  _ _ hI0 hIx0 (fun X pre U h=>hY _ _ _ h.1) ⟨hJ _ _ _ _ _ h0 ht ?_,bY,fun h=>h⟩
  (fun x=>{ tmps:=#[.func (.yield l) #[] #[],.pointer (some ⟨b1,0,none⟩),.pointer (some ⟨b2,0,none⟩),.pointer (some ⟨W.heap.size,0,none⟩),.string x,.func (.func gf) #[] lb,.string x,undef,undef,undef,undef,undef,undef],defers:=[] }) ?assign ?body ?done ?stop
 case assign =>
  intro l x U K hK
  gi_wp2
  exact hK
 case body =>
  rintro l' X pre x U ⟨hj,hb,hx⟩ hpre
  have hcl:=hb.cell
  have hkU:=hY _ _ _ hj
  have hc2:=(hkU.boxed hb2 h2).cell
  have hxm:x∈xs:=hpre.subset (by simp)
  have hp2:pre.map f++[f x] <+: xs.map f:=by
   have:=hpre.map f
   rwa [List.map_append] at this
  have HO:Hid (∀ m,Calls Tryz.prog kf (encT x++lk) (U.drewN m) fun e w'=>e=.returned (.string (f x))∧∃ n,w'=U.drewN n):=fun m=>(hof x hxm _ (hkU.trans (Kept.drewN _ _ _))).mono fun e w' h=>⟨h.1,by obtain ⟨_,q,rfl⟩:=h;exact ⟨m+q,by rw [World.drewN_drewN]⟩⟩
  have HJd:Hid (∀ m,J (fun k=>X k∨k=W.heap.size) (pre.map f) (U.drewN m)):=fun m=>hJ _ _ _ _ _ hj (Turned.drewN _ U m) (fun k h=>.inl h)
  have HYd:Hid (∀ m,YieldAt Fence.wide (n - 1) Tryz.prog l #[.string (f x)] (U.drewN m) fun e W'=>Kept (fun k=>X k∨k=W.heap.size) (U.drewN m) W'∧∃ b,e=.returned (.bool b)∧(b=true→J (fun k=>X k∨k=W.heap.size) (pre.map f++[f x]) W')∧(b=false→Jx (fun k=>X k∨k=W.heap.size) (pre.map f++[f x]) W')):=fun m=>by
   obtain ⟨fn,tmps,assign,body,hy,hR1⟩:=hR _ _ _ _ (HJd.out m) hp2
   refine ⟨fn,tmps,assign,body,hy,hR1.mono ?_⟩
   rintro e W' ⟨hk,(⟨rfl,hj⟩ | ⟨rfl,hj⟩)⟩
   ·exact ⟨hk,true,rfl,fun _=>hj,fun h=>by cases h⟩
   ·exact ⟨hk,false,rfl,(fun h=>by cases h),fun _=>hj⟩
  have HPx:=Lib.hid hp2
  have hmx:Tryz.prog.follows .mixedOrders=true:=by kernel_rfl
  clear hj hp2
  gi_wp2
  gi_region_with_o (first
   | (refine ⟨trivial,(fun h=>(by cases h)),(CallsIn.inRound l' (callsIn_wide.2 (HO.out 1))).mono ?_⟩;rintro e w' ⟨rfl,q,rfl⟩;obtain ⟨fn,tmps,assign,body,hy,hR1⟩:=HYd.out q;have HR1:=Lib.hid hR1;clear hR1)
   | (refine ⟨(fun h=>(by cases h)),(RoundIn.within l' HR1.out).mono ?_⟩;rintro e W3 ⟨hk3,b,rfl,hJ3,hJx3⟩)
   | fail)
  all_goals
   have hk4:Kept X U W3:=(Kept.drewN X U q).trans (hk3.sub fun k h=>.inl h)
   have hb4:=hk3.boxed ((Kept.drewN (fun k=>X k∨k=W.heap.size) U q).boxed hb (.inr rfl)) (.inr rfl)
   have HJ3:=Lib.hid hJ3
   have HJx3:=Lib.hid hJx3
   clear hJ3 hJx3
   cases b
   ·gi_wp2
    exact ⟨hk4,rfl,_,HPx.out,HJx3.out (by simp)⟩
   ·gi_wp2
    exact ⟨hk4,by rw [List.map_append];exact HJ3.out (by simp),hb4,hx⟩
 case done =>
  rintro D X U hD hXD ⟨hj,hb,hx⟩ hK
  gi_wp2
  refine ⟨by simp,.inl ⟨_,_,rfl,run_takeDeferred hK,?_⟩⟩
  exact ⟨_,results_none rfl _ _ _,⟨_,rfl⟩,_,.inl (hJ _ _ _ _ _ hj (Turned.putObj _ _ _ (.inl hXD)) (fun k h=>.inl h))⟩
 case stop =>
  rintro D X c pre U hD hXD hpre ⟨rfl,q,hq,hj⟩ hK
  gi_wp2
  refine ⟨by simp,.inl ⟨_,_,rfl,run_takeDeferred hK,?_⟩⟩
  exact ⟨_,results_none rfl _ _ _,⟨_,rfl⟩,_,.inr ⟨q,hq,hJx _ _ _ _ _ hj (Turned.putObj _ _ _ (.inl hXD)) (fun k h=>.inl h)⟩⟩
 ·rintro k (h | h)
  ·exact h.elim
  ·exact .inr ⟨by omega,by omega⟩
end Go.Proofs.YtmfjolmfbdbegaaGreatDoor

namespace Go.Proofs.YtmfjolmfbdbegaaGreatDoor
open Go.RowKit Go.Shelf
attribute [local go_sem] Oper.semAt_some
def pairsL (a b:List ByteArray):List Pr:=(List.range (max a.length b.length)).map fun i=>(a.getD i ⟨#[]⟩,b.getD i ⟨#[]⟩)
theorem zip_get:∀ (a b:List BT) (i:Nat),(zipT a b)[i]? = if i < max a.length b.length then some (a.getD i []++b.getD i []) else none
 | [],b,i=>by
  unfold zipT
  by_cases h:i < b.length
  ·rw [if_pos (by simpa using h),List.getElem?_eq_getElem h];simp [List.getD,h]
  ·rw [if_neg (by simpa using h),List.getElem?_eq_none (by omega)]
 | x :: r,[],i=>by
  unfold zipT
  by_cases h:i < (x :: r).length
  ·rw [if_pos (by simpa using h),List.getElem?_eq_getElem h];simp only [List.getD,List.getElem?_eq_getElem h];simp
  ·rw [if_neg (by simpa using h),List.getElem?_eq_none (by omega)]
 | x :: r,y :: s,0=>by unfold zipT;simp
 | x :: r,y :: s,i+1=>by
  unfold zipT
  rw [List.getElem?_cons_succ,zip_get r s i]
  simp only [List.length_cons]
  by_cases h:i < max r.length s.length
  ·rw [if_pos h,if_pos (by omega)];simp [List.getD]
  ·rw [if_neg h,if_neg (by omega)]
theorem getD_map (l:List BT) (i:Nat):(l.map txt).getD i ⟨#[]⟩=txt (l.getD i []):=by
 unfold List.getD
 rw [List.getElem?_map]
 cases l[i]? <;> rfl
theorem pairs_zip (a b:List BT):(pairsL (a.map txt) (b.map txt)).map (fun p=>p.1++p.2)=(zipT a b).map txt:=by
 apply List.ext_getElem?
 intro i
 rw [List.getElem?_map,List.getElem?_map,zip_get]
 unfold pairsL
 rw [List.getElem?_map,List.length_map,List.length_map]
 by_cases h:i < max a.length b.length
 ·rw [if_pos h,List.getElem?_range h]
  simp only [Option.map_some,getD_map,txt_app]
 ·rw [if_neg h,List.getElem?_eq_none (by simpa using h)]
  rfl
set_option maxHeartbeats 400000 in
theorem pairs_any (o1 o2:Option Addr) (n1 n2 c1 c2:Nat) (w:World):Calls Tryz.prog 223 #[.slice o1 n1 c1,.slice o2 n2 c2] w fun e w' =>
  e=.returned (.func (.func 235) #[] #[.pointer (some ⟨w.heap.size,0,none⟩),.pointer (some ⟨w.heap.size+1,0,none⟩)])∧(w.alloc (.cells #[.slice o1 n1 c1] 28)).alloc (.cells #[.slice o2 n2 c2] 28)=w':=by
 go_enter Tryz.func223,Tryz.ntmps223
 go_wp2
 go_ret
 exact ⟨rfl,rfl⟩
set_option maxRecDepth 100000 in
set_option maxHeartbeats 4000000 in
theorem pairs_tells (n:Nat) (o1 o2:Option Addr) (N1 N2 c1 c2:Nat) (xs ys:List ByteArray) (hN1:N1=xs.length) (hN2:N2=ys.length) (hl1:N1≤1000000000) (hl2:N2≤1000000000) (b1 b2 B:Nat) (w:World)
  (hb1:Boxed w b1 28 (.slice o1 N1 c1)) (hb2:Boxed w b2 28 (.slice o2 N2 c2)) (h1:b1 < B) (h2:b2 < B) (hBw:B≤w.heap.size)
  (hr1:ReadsO w B (.slice o1 N1 c1) xs) (hr2:ReadsO w B (.slice o2 N2 c2) ys) :
  TellsB n Tryz.prog 235 #[.pointer (some ⟨b1,0,none⟩),.pointer (some ⟨b2,0,none⟩)] encP B (pairsL xs ys) w:=by
 intro l J Jx W hW hJ hJx hY hR h0
 have hk0:=hY _ _ _ h0
 have hB1:=hk0.boxed hb1 h1
 have hB2:=hk0.boxed hb2 h2
 have HS:Hid (∀ U,Kept (fun k=>k < B) w U→Boxed U b1 28 (.slice o1 N1 c1)∧Boxed U b2 28 (.slice o2 N2 c2)):=fun U hU=>⟨hU.boxed hb1 h1,hU.boxed hb2 h2⟩
 have HA1:Hid (∀ U,Kept (fun k=>k < B) w U→∀ (k m:Nat),Calls Tryz.prog 236 #[.slice o1 N1 c1,.int .i64 (k:Int)] (U.drewN m) fun e w'=>e=.returned (.string (xs.getD k ⟨#[]⟩))∧w'=U.drewN m):=fun U hU k m =>
  at_any _ xs k B _ (reads_kept hr1 (hU.trans (Kept.drewN _ U m)) hBw)
 have HA2:Hid (∀ U,Kept (fun k=>k < B) w U→∀ (k m:Nat),Calls Tryz.prog 236 #[.slice o2 N2 c2,.int .i64 (k:Int)] (U.drewN m) fun e w'=>e=.returned (.string (ys.getD k ⟨#[]⟩))∧w'=U.drewN m):=fun U hU k m =>
  at_any _ ys k B _ (reads_kept hr2 (hU.trans (Kept.drewN _ U m)) hBw)
 have HY:=Lib.hid hY
 obtain ⟨M,hM⟩:∃ M,M=max N1 N2:=⟨_,rfl⟩
 have HL:Hid ((pairsL xs ys).length=M):=by show _=_;unfold pairsL;rw [List.length_map,List.length_range,hM,hN1,hN2]
 have HG:Hid (∀ k,k < M→(pairsL xs ys)[k]? = some (xs.getD k ⟨#[]⟩,ys.getD k ⟨#[]⟩)):=fun k hk=>by
  unfold pairsL
  rw [List.getElem?_map,List.getElem?_range (by rw [← hN1,← hN2,← hM];exact hk)]
  rfl
 have hMi:(M:Int)=max (N1:Int) (N2:Int):=by rw [hM];omega
 clear hr1 hr2 hY hk0 hN1 hN2
 refine callsIn_of_wp Tryz.func235 rfl trivial ?_ rfl
 simp only [Tryz.ntmps235,List.size_toArray,List.length_cons,List.length_nil,Nat.reduceAdd,Nat.reduceSub,Array.replicate_succ,Array.replicate_zero,List.push_toArray,List.append_toArray,List.nil_append,List.cons_append]
 have hc1:=hB1.cell
 have hc2:=hB2.cell
 gi_wp2
 rw [← hMi]
 have HMi:=Lib.hid hMi
 have hMb:M≤1000000000:=by omega
 clear hMi hM
 gi_loopw [10] (fun i wr=>∃ k:Nat,i=.int .i64 k∧k≤M∧J (fun _=>False) ((pairsL xs ys).take k) wr) (fun i _=>M - (intOf i).toNat)
 case atStart=>exact ⟨0,rfl,Nat.zero_le _,h0⟩
 case round =>
  obtain ⟨k,rfl,hk,hJs⟩:=hrel
  by_cases hlt:k < M
  ·have hkw:=HY.out _ _ _ hJs
   have hx:=HG.out k hlt
   have ht:(pairsL xs ys).take (k+1)=(pairsL xs ys).take k++[(xs.getD k ⟨#[]⟩,ys.getD k ⟨#[]⟩)]:=by rw [List.take_add_one,hx];rfl
   have HJd:Hid (∀ m,J (fun _=>False) ((pairsL xs ys).take k) (wr.drewN m)):=fun m=>hJ _ _ _ _ _ hJs (Turned.drewN _ wr m) (fun _ h=>.inl h)
   have HYd:Hid (∀ m,YieldAt Fence.wide (n - 1) Tryz.prog l (encP (xs.getD k ⟨#[]⟩,ys.getD k ⟨#[]⟩)) (wr.drewN m) fun e W'=>Kept (fun _=>False) (wr.drewN m) W'∧∃ b,e=.returned (.bool b)∧(b=true→J (fun _=>False) ((pairsL xs ys).take (k+1)) W')∧(b=false→Jx (fun _=>False) ((pairsL xs ys).take (k+1)) W')):=fun m=>by
    obtain ⟨fn,tmps,assign,body,hy,hR1⟩:=hR _ _ _ _ (HJd.out m) (by rw [← ht];exact List.take_prefix _ _)
    refine ⟨fn,tmps,assign,body,hy,hR1.mono ?_⟩
    rw [ht]
    rintro e W' ⟨hk,(⟨rfl,hj⟩ | ⟨rfl,hj⟩)⟩
    ·exact ⟨hk,true,rfl,fun _=>hj,fun h=>by cases h⟩
    ·exact ⟨hk,false,rfl,(fun h=>by cases h),fun _=>hj⟩
   have C1:Hid (Calls Tryz.prog 236 #[.slice o1 N1 c1,.int .i64 (k:Int)] wr.drew fun e w'=>e=.returned (.string (xs.getD k ⟨#[]⟩))∧w'=wr.drew):=HA1.out _ hkw k 1
   have C2:Hid (Calls Tryz.prog 236 #[.slice o2 N2 c2,.int .i64 (k:Int)] wr.drew fun e w'=>e=.returned (.string (ys.getD k ⟨#[]⟩))∧w'=wr.drew):=HA2.out _ hkw k 1
   have HYe:Hid (YieldAt Fence.wide (n - 1) Tryz.prog l #[Value.agg #[.string (xs.getD k ⟨#[]⟩),.string (ys.getD k ⟨#[]⟩)]] wr.drew fun e W'=>Kept (fun _=>False) wr.drew W'∧∃ b,e=.returned (.bool b)∧(b=true→J (fun _=>False) ((pairsL xs ys).take (k+1)) W')∧(b=false→Jx (fun _=>False) ((pairsL xs ys).take (k+1)) W')):=HYd.out 1
   have hcc1:=(HS.out _ hkw).1.cell
   have hcc2:=(HS.out _ hkw).2.cell
   clear hx ht hkw
   gi_wp2
   obtain ⟨xk,hxk⟩:∃ xk,xk=xs.getD k ⟨#[]⟩:=⟨_,rfl⟩
   obtain ⟨yk,hyk⟩:∃ yk,yk=ys.getD k ⟨#[]⟩:=⟨_,rfl⟩
   rw [← hxk,← hyk] at HYe
   rw [← hxk] at C1
   rw [← hyk] at C2
   clear hxk hyk HYd HJd
   obtain ⟨fn,tmps,assign,body,hy,hR1⟩:=HYe.out
   have HR1:=Lib.hid hR1
   clear hR1 HYe
   have hmx:Tryz.prog.follows .mixedOrders=true:=by kernel_rfl
   gi_region_with_o (first
    | (refine ⟨trivial,(fun h=>(by cases h)),?_⟩;with_reducible refine (callsIn_wide.2 C1.out).mono ?_;rintro e w' ⟨rfl,rfl⟩)
    | (refine ⟨trivial,(fun h=>(by cases h)),?_⟩;with_reducible refine (callsIn_wide.2 C2.out).mono ?_;rintro e w' ⟨rfl,rfl⟩)
    | (refine ⟨(fun h=>(by cases h)),(RoundIn.depth HR1.out).mono ?_⟩;rintro e W3 ⟨hk3,b,rfl,hJ3,hJx3⟩)
    | fail)
   all_goals
    have HJ3:=Lib.hid hJ3
    have HJx3:=Lib.hid hJx3
    clear hJ3 hJx3
    cases b
    ·gi_wp2
     refine bodyPost_ret (results_none rfl _ _ _) rfl ?_
     exact ⟨⟨_,rfl⟩,_,.inr ⟨_,List.take_prefix _ _,HJx3.out (by simp)⟩⟩
    ·gi_wp2
     go_roundw
     case rel=>exact ⟨k+1,by go_num,hlt,HJ3.out (by simp)⟩
     case measure=>simp [intOf];omega
  ·have hkN:k=M:=by omega
   have HJ:Hid (J (fun _=>False) (pairsL xs ys) wr):=by
    show J _ _ _
    rw [hkN,← HL.out,List.take_length] at hJs
    exact hJs
   clear hJs
   gi_wp2
   go_end0
   exact ⟨⟨_,rfl⟩,_,.inl HJ.out⟩
end Go.Proofs.YtmfjolmfbdbegaaGreatDoor
