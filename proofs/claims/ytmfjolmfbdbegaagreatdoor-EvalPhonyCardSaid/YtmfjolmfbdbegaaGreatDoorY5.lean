/-
  What begin answers: nothing is read yet, and where the files stand. No condition but sizes.
  What caught answers: what went wrong is handed back. No condition.
  What caught answers, given what the closure does. No condition.
  What Run's closure answers: the file that is asked for is read. No condition but sizes.
  What end asks of a rule: may its first target be First? No condition.
  Each rule that is told has a target. No condition.
  What slices.IndexFunc answers over the rules with end's own predicate. No condition but sizes.
  The rules that are kept, as end asks them. No condition.
  A row of texts of the call's own, sorted by the library, and each kept once. No condition but sizes.
  What end answers: all that was read, as it is told. No condition but sizes.
-/
import Derived.Recover
import Derived.Defers
import Derived.Sort.OwnSorted
import Derived.Test.YtmfjolmfbdbegaaGreatDoorY4
import Derived.Test.YtmfjolmfbdbegaaGreatDoorNM1
namespace Go.Proofs.YtmfjolmfbdbegaaGreatDoor
open Go.RowKit Go.Shelf Go.Maps
attribute [local go_sem] Oper.semAt_some
theorem MapF.store {w:World} {b n:Nat} {f:BT→Option Value} (hM:MapF w b n f) (hn:n < maxLen) {t e:TypeId} (ht:Tryz.prog.underlying t=some (.map 9 e)) (s:ByteArray) (hs:s.size≤maxLen) (u:Value) :
  ∃ w',(Instr.mapUpdate t (.map (some b)) (.string s) u).run Tryz.prog w=.ok () w'∧MapF w' b (n+1) (putF f s.data.toList u)∧Turned (fun n=>n=b) w w':=by
 obtain ⟨D,h1,h2,h3⟩:=hM
 obtain ⟨w',hrun,r1,r2⟩:=h1.store keyS ht hn (keyOfS hs) (val:=u) (d:=.held u) (ps:=[]) rfl
 exact ⟨w',hrun,⟨_,r1,h2.put _ _,mapf_put h2 h3 _ _⟩,turned_mapB r2⟩
theorem cell_of_block {w w':World} {b:Nat} (h:w'.heap[b]? = w.heap[b]?) (j:Nat):w'.cell? ⟨b,j,none⟩=w.cell? ⟨b,j,none⟩:=by
 unfold World.cell?;rw [h]
abbrev ctxB (v:Value) (fs:Files) (w:World) (n:Nat):Ctx:=⟨v,fs,w.heap.size+2,w.heap.size,n,w.heap.size+1⟩
abbrev svB:SV:=⟨.slice none 0 0,.slice none 0 0,.slice none 0 0,.slice none 0 0,0,[],[]⟩
theorem firstF_same {fs:Files} {i:Nat} {x:BT × BT} (hx:fs[i]? = some x) (h:(fileOf (fs.take i) x.1).isSome=true):firstF (fs.take (i+1))=firstF (fs.take i):=by
 obtain ⟨h1,h2⟩:=List.getElem?_eq_some_iff.1 hx
 funext q
 have e:fs.take (i+1)=fs.take i++[x]:=by rw [List.take_succ_eq_append_getElem h1,h2]
 unfold firstF
 rw [e,List.findIdx?_append]
 cases hq:(fs.take i).findIdx? (fun y=>decide (y.1=q)) with
 | some j=>rfl
 | none =>
  have hne:x.1≠q:=fun hxq=>by
   rw [← firstF_is] at h
   unfold firstF at h
   rw [hxq,hq] at h
   cases h
  simp [List.findIdx?_cons,hne]
theorem firstF_new {fs:Files} {i:Nat} {x:BT × BT} (hx:fs[i]? = some x) (h:(fileOf (fs.take i) x.1).isSome=false):firstF (fs.take (i+1))=putF (firstF (fs.take i)) x.1 (.int .i64 (i:Int)):=by
 obtain ⟨h1,h2⟩:=List.getElem?_eq_some_iff.1 hx
 funext q
 have e:fs.take (i+1)=fs.take i++[x]:=by rw [List.take_succ_eq_append_getElem h1,h2]
 have hl:(fs.take i).length=i:=by rw [List.length_take];omega
 rw [← firstF_is] at h
 unfold putF
 unfold firstF at h ⊢
 rw [e,List.findIdx?_append]
 by_cases hq:q=x.1
 ·subst hq
  rw [if_pos rfl]
  cases hf:(fs.take i).findIdx? (fun y=>decide (y.1=x.1)) with
  | some j=>rw [hf] at h;cases h
  | none=>simp [List.findIdx?_cons,hl]
 ·rw [if_neg hq]
  cases hf:(fs.take i).findIdx? (fun y=>decide (y.1=q)) with
  | some j=>rfl
  | none =>
   have:x.1≠q:=fun h=>hq h.symm
   simp [List.findIdx?_cons,this]
section
variable {w0 w w':World} {c:Ctx} {L:List Own} {kn:List KV} {st:St} {s:SV}
theorem RS.turnFirst {n:Nat} {fs':Files} (h:In w0 (owns c s st++L) w) (hs:s.known=[]) (hr:s.rules.map (·.1)=st.rules) (hn:s.nn=0) (h1:MapF w' c.fb n (firstF fs')) (h2:Turned (fun m=>m=c.fb) w w') :
  In w0 (owns { c with fs:=fs',fn:=n } s st++L) w':=by
 have k1:=h.pull 6 rfl
 have k2:=k1.one (e':=oMap c.fb n (firstF fs')) fun X hX=>⟨X,⟨h1,hX.2⟩,h2.wider fun m hm=>(hX.2 m).2 hm,fun _=>.inl⟩
 exact k2.push 6 (Nat.le_add_left 6 _)
end
theorem begin_in (w:World) (v:Value):In w (owns (ctxB v [] w 0) svB St.start) (((w.alloc (.map #[] 0)).alloc (.map #[] 0)).alloc (.cells (rCells (ctxB v [] w 0) svB 0).toArray 86)):=by
 have a1:=In.mapMake (In.nil (Below.refl _ w))
 have a2:=In.mapMake a1
 rw [World.size_alloc] at a2
 have a3:=a2.alloc (rCells (ctxB v [] w 0) svB 0) 86
 rw [World.size_alloc,World.size_alloc] at a3
 have b1:=a3.pull 2 rfl
 have b2:=b1.rowNil 9 1 encS
 have b3:=b2.rowNil 9 1 encS
 have b4:=In.pack (l1:=[]) b3
 have b5:=b4.rowNil 41 6 encR
 have b6:=In.add (e:=oEnv (.slice none 0 0) []) (X:=fun _=>False) b5 (Below.refl _ _) ⟨EnvS.nil _ _,fun _ h=>h.elim⟩ (fun _ h=>h.elim)
 have b7:=b6.pull 6 rfl
 have b8:=In.pack (l1:=[]) b7
 have b9:=b8.push 8 (Nat.le_add_left 8 _)
 exact b9
set_option maxRecDepth 100000 in
set_option maxHeartbeats 8000000 in
theorem ebegin_any (w:World) (v:Value) (fs:Files) (hfs:FilesAt w v fs) (hl:fs.length≤1000000000) (hp:∀ x∈fs,x.1.length≤1000000) :
  Calls Tryz.prog 18 #[v] w fun e w'=>∃ n,e=.returned (.pointer (some ⟨w.heap.size+2,0,none⟩))∧RS w (ctxB v fs w n) [] [] St.start w':=by
 have HI0:=Lib.hid (begin_in w v)
 have HFs:=Lib.hid hfs
 have HPl:=Lib.hid hp
 have hfs2:=hfs
 obtain ⟨o,cc,hv,_⟩:=hfs2
 obtain ⟨m,hm⟩:∃ m,m=fs.length:=⟨_,rfl⟩
 rw [← hm] at hv hl
 have HM:=Lib.hid hm
 have hmm:=@run_makeMap Tryz.prog
 have HV:=Lib.hid hv
 suffices hgo:Calls Tryz.prog 18 #[.slice o m cc] w fun e w'=>∃ n,e=.returned (.pointer (some ⟨w.heap.size+2,0,none⟩))∧RS w (ctxB v fs w n) [] [] St.start w' by rw [hv];rwa [hv] at hgo
 have HI:Hid (In w (owns (ctxB v (fs.take 0) w 0) svB St.start++[]) (((w.alloc (.map #[] 0)).alloc (.map #[] 0)).alloc (.cells #[.slice o m cc,.map (some w.heap.size),.map (some (w.heap.size+1)),.int .i64 0,.slice none 0 0,.slice none 0 0,.slice none 0 0,.string ⟨#[]⟩,.slice none 0 0] 86))):=by
  have:=HI0.out
  rw [hv] at this ⊢
  exact this
 clear hfs hp hm HI0 hv
 go_enter Tryz.func18,Tryz.ntmps18
 go_wp2_with fail
 go_loopw [13] (fun zv wr=>∃ (i n:Nat),i≤m∧n≤i∧zv=.int .i64 i∧Hid (In w (owns (ctxB v (fs.take i) w n) svB St.start++[]) wr)) (fun zv _=>m - (intOf zv).toNat)
 case atStart=>exact ⟨0,0,Nat.zero_le _,Nat.le_refl _,rfl,HI.out⟩
 case round =>
  obtain ⟨i,n,hi,hn,rfl,HIn⟩:=hrel
  clear HI
  by_cases hlt:i < m
  ·obtain ⟨x,hx⟩:∃ x,fs[i]? = some x:=⟨_,List.getElem?_eq_getElem (by rw [← HM.out];exact hlt)⟩
   obtain ⟨o1,c1,hv1,hxx⟩:=HFs.out.below (w':=wr) HIn.out.back
   have hv2:=HV.out
   rw [hv1] at hv2
   cases hv2
   obtain ⟨b,f,rfl,hbl,hlc,hc0,hc1⟩:=hxx i x hx
   rw [← HM.out] at hlc
   have hxl:=HPl.out x (List.mem_of_getElem? hx)
   have hii:(i:Int) < (fs.length:Int):=by omega
   have hB:Below wr.heap.size wr (wr.alloc (.cells #[.string (txt x.1),.string (txt x.2)] 37)):=(Below.refl _ wr).alloc (Nat.le_refl _) _
   have hwr:w.heap.size < wr.heap.size:=by
    have:=(Array.getElem?_eq_some_iff.1 HIn.out.rcells).1
    simp only at this
    omega
   have hI1:=HIn.out.below hB
   have hRS:RS w (ctxB v (fs.take i) w n) [] [] St.start (wr.alloc (.cells #[.string (txt x.1),.string (txt x.2)] 37)):=⟨svB,hI1,⟨rfl,(by intro y hy;cases hy),Nat.zero_le _,by unfold maxLen;show 0 < _;omega⟩,by intro y hy;cases hy⟩
   have HT:=Lib.hid (hRS.there x.1 (by omega))
   have HI1:=Lib.hid hI1
   obtain ⟨x0,x1,_⟩:=two_cells (World.alloc_heap_new wr (.cells #[.string (txt x.1),.string (txt x.2)] 37))
   obtain ⟨_,d1,_⟩:=nine_cells hI1.rcells
   have HSame:Hid ((fileOf (fs.take i) x.1).isSome=true→firstF (fs.take (i+1))=firstF (fs.take i)):=firstF_same hx
   have HNew:Hid ((fileOf (fs.take i) x.1).isSome=false→firstF (fs.take (i+1))=putF (firstF (fs.take i)) x.1 (.int .i64 (i:Int))):=firstF_new hx
   clear hRS hI1 hB hxx hx HIn
   simp only at HT d1
   generalize (fileOf (fs.take i) x.1).isSome=is at HT HSame HNew
   cases is with
   | true =>
    have HI2:Hid (In w (owns (ctxB v (fs.take (i+1)) w n) svB St.start++[]) (wr.alloc (.cells #[.string (txt x.1),.string (txt x.2)] 37))):=by
     have:=HI1.out
     unfold owns at this ⊢
     show In w _ _
     simp only at this ⊢
     rw [HSame.out rfl]
     exact this
    clear HI1 HSame HNew hwr
    go_wp2_with fail
    with_reducible refine HT.out.mono ?_
    rintro e w' ⟨rfl,rfl⟩
    go_wp2_with fail
    go_roundw
    case rel=>exact ⟨i+1,n,by omega,by omega,by go_num,HI2⟩
    case measure=>simp [intOf];omega
   | false =>
    have hnew:=HNew.out rfl
    have HNw:=Lib.hid hnew
    generalize hW1:wr.alloc (.cells #[.string (txt x.1),.string (txt x.2)] 37)=W1 at HI1 HT x0 x1 d1
    have HM1:=Lib.hid (HI1.out.mapAt (b:=w.heap.size) (n:=n) (f:=firstF (fs.take i)) (by simp [owns]))
    have HM2:=Lib.hid ((HI1.out.below (below_drew1 W1)).mapAt (b:=w.heap.size) (n:=n) (f:=firstF (fs.take i)) (by simp [owns]))
    have HK:Hid (∀ W,Below W1.heap.size W1 W→W.cell? ⟨w.heap.size+2,1,none⟩=some (.map (some w.heap.size))∧W.cell? ⟨wr.heap.size,0,none⟩=some (.string (txt x.1))):=fun W hb=>by
     have k:=HI1.out.below hb
     obtain ⟨_,k1,_⟩:=nine_cells k.rcells
     refine ⟨k1,?_⟩
     have hlt:wr.heap.size < W1.heap.size:=by rw [← hW1];simp
     exact (hb.cell (p:=⟨wr.heap.size,0,none⟩) hlt).trans x0
    have hW0:=Below.refl W1.heap.size W1
    have hWd:=below_drew1 W1
    have hnl:n < maxLen:=by unfold maxLen;omega
    have hsz:(txt x.1).size≤maxLen:=by rw [txt_size];unfold maxLen;omega
    have HNext:Hid (∀ W W',(W=W1∨W=W1.drew)→MapF W' w.heap.size (n+1) (putF (firstF (fs.take i)) (txt x.1).data.toList (.int .i64 (i:Int)))→Turned (fun m=>m=w.heap.size) W W'→In w (owns (ctxB v (fs.take (i+1)) w (n+1)) svB St.start++[]) W'):=fun W W' hw hM hT=>by
     rw [txt_data,← HNw.out] at hM
     rcases hw with rfl | rfl
     ·exact RS.turnFirst HI1.out rfl rfl rfl hM hT
     ·exact RS.turnFirst (HI1.out.below (below_drew1 W1)) rfl rfl rfl hM hT
    obtain ⟨wA,hrA,mA,tA⟩:=HM1.out.store hnl (t := 83) (e := 3) Tryz.underlying83 (txt x.1) hsz (.int .i64 (i:Int))
    obtain ⟨wB,hrB,mB,tB⟩:=HM2.out.store hnl (t := 83) (e := 3) Tryz.underlying83 (txt x.1) hsz (.int .i64 (i:Int))
    have hwl:w.heap.size < wr.heap.size:=hwr
    have hcell:∀ W W',W.cell? ⟨wr.heap.size,0,none⟩=some (.string (txt x.1))→wr.heap.size < W.heap.size→Turned (fun m=>m=w.heap.size) W W'→W'.cell? ⟨wr.heap.size,0,none⟩=some (.string (txt x.1)):=fun W W' hc hl hT =>
     (cell_of_block (hT.block wr.heap.size hl (fun h=>by omega)) _).trans hc
    have HIA:=Lib.hid (HNext.out _ _ (.inl rfl) mA tA)
    have HIB:=Lib.hid (HNext.out _ _ (.inr rfl) mB tB)
    obtain ⟨_,dA,_⟩:=nine_cells HIA.out.rcells
    obtain ⟨_,dB,_⟩:=nine_cells HIB.out.rcells
    have hs1:wr.heap.size < W1.heap.size:=by rw [← hW1];simp
    have HKA:Hid (wA.cell? ⟨w.heap.size+2,1,none⟩=some (.map (some w.heap.size))∧wA.cell? ⟨wr.heap.size,0,none⟩=some (.string (txt x.1))):=⟨dA,hcell _ _ x0 hs1 tA⟩
    have HKB:Hid (wB.cell? ⟨w.heap.size+2,1,none⟩=some (.map (some w.heap.size))∧wB.cell? ⟨wr.heap.size,0,none⟩=some (.string (txt x.1))):=⟨dB,hcell _ _ (HK.out _ (below_drew1 W1)).2 hs1 tB⟩
    clear mA tA mB tB HM1 HM2 HNext hcell hwl hwr dA dB
    clear hnew HNew HSame HI1
    go_wp2_with fail
    with_reducible refine HT.out.mono ?_
    rintro e w' ⟨rfl,rfl⟩
    go_upto_region 6 with fail
    clear hW1
    go_region_held3 (fun W=>W.cell? ⟨w.heap.size+2,1,none⟩=some (.map (some w.heap.size))∧W.cell? ⟨wr.heap.size,0,none⟩=some (.string (txt x.1)))
     (first | exact HK.out _ (by assumption) | exact HKA.out | exact HKB.out)
     (fail)
    all_goals (
     go_wp2_with fail
     go_roundw
     case rel=>exact ⟨i+1,n+1,by omega,by omega,by go_num,by first | exact HIA.out | exact HIB.out⟩
     case measure=>simp [intOf];omega)
  ·have him:fs.take i=fs:=List.take_of_length_le (by rw [← HM.out];omega)
   have HI2:Hid (RS w (ctxB v fs w n) [] [] St.start wr):=by
    have:=HIn.out
    rw [him] at this
    exact ⟨svB,this,⟨rfl,(by intro y hy;cases hy),Nat.zero_le _,by unfold maxLen;show 0 < _;omega⟩,by intro y hy;cases hy⟩
   clear HIn him
   go_wp2_with fail
   go_ret
   exact ⟨n,rfl,HI2.out⟩
end Go.Proofs.YtmfjolmfbdbegaaGreatDoor

namespace Go.Proofs.YtmfjolmfbdbegaaGreatDoor
open Go.RowKit Go.Shelf Go.Maps
attribute [local go_sem] Oper.semAt_some
theorem three_cells12 {w:World} {b:Nat} {a0 a1 a2:Value} {T:TypeId} (h:w.heap[b]? = some (.cells #[a0,a1,a2] T (0,0))) :
  w.cell? ⟨b,0,none⟩=some a0∧w.cell? ⟨b,1,none⟩=some a1∧w.cell? ⟨b,2,none⟩=some a2∧w.frozen? ⟨b,0,none⟩=false∧w.frozen? ⟨b,1,none⟩=false∧w.frozen? ⟨b,2,none⟩=false:=by
 refine ⟨?_,?_,?_,Lib.frozen_of_heap h 0,Lib.frozen_of_heap h 1,Lib.frozen_of_heap h 2⟩ <;> (rw [Lib.cell_of_heap h];rfl)
theorem catch_idle (p:Addr) (w:World) :
  CallsD Tryz.prog 32 #[.pointer (some p)] .returning w fun e u' w'=>e=.returned (.tuple #[])∧u'=.returning∧w'=w:=by
 refine callsD_of_wpS Tryz.func32 rfl fun c₀ cs hu=>?_
 apply wpS_seq
 apply wpS_region
 simp [wpOpsS,go_sem,recoverD,hu,Tryz.ntmps32,Exit.thenS]
 apply wpS_seq
 apply wpS_region
 simp [wpOpsS,go_sem,hu,Exit.thenS]
 refine wpS_cond (t:=false) (by simp [Act.eval,Array.replicate]) ?_
 simp only [Bool.false_eq_true,if_false]
 refine wpS_of_wp (wp_skip ?_)
 cases c₀
 simp_all [bodyPostS,results,Tryz.results32]
set_option maxRecDepth 100000 in
set_option maxHeartbeats 2000000 in
theorem catch_pan (b:Nat) (f:Flt) (older:List PanicEntry) (x0 x1 x2:Value) (w:World) (hc:w.heap[b]? = some (.cells #[x0,x1,x2] 60 (0,0))) :
  CallsD Tryz.prog 32 #[.pointer (some ⟨b,0,none⟩)] (.panicking ({ v:=panV f,recovered:=false } :: older)) w fun e u' w' =>
   e=.returned (.tuple #[])∧u'=.panicking ({ v:=panV f,recovered:=true } :: older)∧w'=((w.setCell ⟨b,0,none⟩ (.int .i64 f.1)).setCell ⟨b,1,none⟩ (.string (txt f.2.1))).setCell ⟨b,2,none⟩ (.int .i64 f.2.2):=by
 refine callsD_of_wpS Tryz.func32 rfl fun c₀ cs hu=>?_
 apply wpS_seq
 apply wpS_region
 unfold panV at hu ⊢
 simp [wpOpsS,go_sem,recoverD,hu,Tryz.ntmps32,Exit.thenS]
 apply wpS_seq
 apply wpS_region
 generalize hpv:(Value.agg #[Value.int IntKind.i64 f.1,Value.string (txt f.2.1),Value.int IntKind.i64 f.2.2])=pv
 simp only [Array.replicate]
 simp [wpOpsS,go_sem,Exit.thenS]
 refine wpS_cond (t:=true) (by simp [Act.eval]) ?_
 simp only [if_true]
 apply wpS_region
 obtain ⟨c0,c1,c2,f0,f1,f2⟩:=three_cells12 hc
 clear hc hu
 subst hpv
 obtain ⟨fe,fp,fn⟩:=f
 simp only
 generalize txt fp=tp
 have hta:(Instr.typeAssert (.iface 60 (.agg #[.int .i64 fe,.string tp,.int .i64 fn])) 20 60 false).run Tryz.prog w=.ok (.agg #[.int .i64 fe,.string tp,.int .i64 fn]) w:=by kernel_rfl
 simp [wpOpsS,go_sem,hta,c0,c1,c2,f0,f1,f2,bodyPostS,results,Tryz.results32]
end Go.Proofs.YtmfjolmfbdbegaaGreatDoor

namespace Go.Proofs.YtmfjolmfbdbegaaGreatDoor
open Go.RowKit Go.Shelf Go.Maps
attribute [local go_sem] Oper.semAt_some
abbrev fltV (f:Flt):Value:=.agg #[.int .i64 f.1,.string (txt f.2.1),.int .i64 f.2.2]
abbrev set3 (w:World) (b:Nat) (x y z:Value):World:=((w.setCell ⟨b,0,none⟩ x).setCell ⟨b,1,none⟩ y).setCell ⟨b,2,none⟩ z
abbrev fltB (w:World):World:=w.alloc (.cells #[.int .i64 0,.string ⟨#[]⟩,.int .i64 0] 60)
set_option maxRecDepth 100000 in
set_option maxHeartbeats 4000000 in
theorem caught_any (p q:Value) (w:World) (Q:World→Prop) (QE:Flt→World→Prop)
  (h:Calls Tryz.prog 20 #[p,q] (fltB w) fun e w2=>w2.heap[w.heap.size]? = some (.cells #[.int .i64 0,.string ⟨#[]⟩,.int .i64 0] 60 (0,0))∧((e=.returned (.tuple #[])∧Q w2)∨∃ f,e=panE f∧QE f w2)) :
  Calls Tryz.prog 19 #[.func (.func 20) #[] #[p,q]] w fun e w' =>
   (∃ w2,Q w2∧e=.returned (.agg #[.int .i64 0,.string ⟨#[]⟩,.int .i64 0])∧w'=set3 w2 w.heap.size (.int .i64 0) (.string ⟨#[]⟩) (.int .i64 0)) ∨
   ∃ f w2,QE f w2∧e=.returned (fltV f)∧w'=set3 w2 w.heap.size (.int .i64 f.1) (.string (txt f.2.1)) (.int .i64 f.2.2):=by
 have hmf:∀ (fn:Fn) (first cap:Array Value) (w:World),(Instr.makeFunc fn first cap).run Tryz.prog w=.ok (.func fn first cap) w:=fun _ _ _ _=>rfl
 have H:=Lib.hid h
 clear h
 go_enter_defers Tryz.func19,Tryz.ntmps19
 go_wp2_with fail
 with_reducible refine H.out.mono ?_
 rintro e w2 ⟨hc,⟨rfl,hQ⟩ | ⟨f,rfl,hQ⟩⟩
 ·obtain ⟨c0,c1,c2,f0,f1,f2⟩:=three_cells12 hc
  have HQ:=Lib.hid hQ
  clear hQ H
  go_wp2_with fail
  refine leaves_cons (f := 32) (args:=#[.pointer (some ⟨w.heap.size,0,none⟩)]) (by simp) (by simp [go_sem]) ?_
  refine (catch_idle ⟨w.heap.size,0,none⟩ _).mono ?_
  rintro e u' w'' ⟨rfl,rfl,rfl⟩
  simp [Leaves,settle,results,Tryz.results19,go_sem,c0,c1,c2,f0,f1,f2]
  exact .inl ⟨w2,HQ.out,rfl⟩
 ·obtain ⟨c0,c1,c2,f0,f1,f2⟩:=three_cells12 hc
  have HQ:=Lib.hid hQ
  clear hQ H
  unfold panE
  go_wp2_with fail
  refine leaves_cons (f := 32) (args:=#[.pointer (some ⟨w.heap.size,0,none⟩)]) (by simp) (by simp [go_sem]) ?_
  refine (catch_pan w.heap.size f [] _ _ _ _ hc).mono ?_
  rintro e u' w'' ⟨rfl,rfl,rfl⟩
  simp [Leaves,settle,results,Tryz.results19,go_sem,c0,c1,c2,f0,f1,f2]
  exact .inr ⟨f.1,f.2.1,f.2.2,w2,HQ.out,⟨rfl,rfl,rfl⟩,rfl⟩
end Go.Proofs.YtmfjolmfbdbegaaGreatDoor

namespace Go.Proofs.YtmfjolmfbdbegaaGreatDoor
open Go.RowKit Go.Shelf Go.Maps
attribute [local go_sem] Oper.semAt_some
set_option maxRecDepth 100000 in
set_option maxHeartbeats 4000000 in
theorem run1_any (al:Bool) (w0:World) (c:Ctx) (hRu:RuleC al) (hst:Std w0) (hfs:FsOk w0 c) (L:List Own) (p:BT) (hp:p.length≤4000) (pr pp:Addr) (w:World) (h:RS w0 c L [] St.start w)
  (h1:w.cell? pr=some (.pointer (some ⟨c.rb,0,none⟩))) (h2:w.cell? pp=some (.string (txt p))) (hg:GG al (runE c.fs p)) :
  Calls Tryz.prog 20 #[.pointer (some pr),.pointer (some pp)] w (StPost w0 c L [] (runE c.fs p)):=by
 have hR:=read_any al w0 c hRu hst hfs 20 (by omega)
 have e:(20 - ((20:Nat):Int))=0:=by omega
 rw [e] at hR
 have HR:=Lib.hid (hR L [] St.start p w h start_fit hp hg)
 have HV:Hid (runE c.fs p=readE c.fs 20 p St.start):=rfl
 rw [HV.out]
 generalize readE c.fs 20 p St.start=R at HR ⊢
 clear hR hg h hfs hst hRu HV
 go_enter Tryz.func20,Tryz.ntmps20
 go_wp2_with fail
 with_reducible refine HR.out.mono ?_
 rintro e w2 (⟨f,rfl,rfl,hI⟩ | ⟨st,rfl,rfl,hI⟩)
 ·have HI:=Lib.hid hI
  clear hI HR
  unfold panE
  go_wp2_with fail
  exact ⟨rfl,.inl ⟨f,rfl,rfl,HI.out⟩⟩
 ·have HI:=Lib.hid hI
  clear hI HR
  go_wp2_with fail
  go_end0
  exact .inr ⟨st,rfl,rfl,HI.out⟩
end Go.Proofs.YtmfjolmfbdbegaaGreatDoor

namespace Go.Proofs.YtmfjolmfbdbegaaGreatDoor
open Go.RowKit Go.Shelf Go.Maps
attribute [local go_sem] Oper.semAt_some
set_option maxRecDepth 100000 in
set_option maxHeartbeats 4000000 in
theorem endOk_any (x:RuleM) (g n cc:Nat) (io oo ro:Option Addr) (im ic om oc rm rc:Nat) (w:World) (hn:0 < n) (hcc:n≤cc) (hc:w.cell? ⟨g,0,none⟩=some (.string (txt (headOf x.targets)))) (hlt:g < w.heap.size) :
  Calls Tryz.prog 39 #[.agg #[.slice (some ⟨g,0,none⟩) n cc,.bool x.isOpen,.string (txt x.stem),.slice io im ic,.slice oo om oc,.slice ro rm rc]] w fun e w'=>e=.returned (.bool (firstOk x))∧Below w.heap.size w w':=by
 have HB:Hid (Below w.heap.size w (w.alloc (.cells #[.slice (some ⟨g,0,none⟩) n cc,.bool x.isOpen,.string (txt x.stem),.slice io im ic,.slice oo om oc,.slice ro rm rc] 41))):=(Below.refl _ w).alloc (Nat.le_refl _) _
 obtain ⟨b0,b1,b2,b3,b4,b5,_⟩:=six_cells (World.alloc_heap_new w (.cells #[.slice (some ⟨g,0,none⟩) n cc,.bool x.isOpen,.string (txt x.stem),.slice io im ic,.slice oo om oc,.slice ro rm rc] 41))
 have hc2:=(HB.out.cell (p:=⟨g,0,none⟩) hlt).trans hc
 have hn0:(0:Int) < (n:Int):=by omega
 have hP:=hasPrefix_any (txt (headOf x.targets)) ⟨#[46]⟩
 have HP:Hid (∀ w,Calls Tryz.prog 40 #[.string (txt (headOf x.targets)),.string ⟨#[46]⟩] w fun e w'=>e=.returned (.bool (([46]:BT).isPrefixOf (headOf x.targets)))∧w'=w):=fun w=>by
  have:=hP w
  rw [txt_data] at this
  exact this
 have HV:Hid (firstOk x=(!x.isOpen && !([46]:BT).isPrefixOf (headOf x.targets))):=rfl
 rw [HV.out]
 clear hP HV hc hlt
 generalize x.isOpen=o at HB b0 b1 b2 b3 b4 b5 hc2 ⊢
 generalize ([46]:BT).isPrefixOf (headOf x.targets)=q at HP ⊢
 cases o with
 | true =>
  go_enter Tryz.func39,Tryz.ntmps39
  go_wp2_with fail
  go_ret
  exact ⟨rfl,HB.out⟩
 | false =>
  go_enter Tryz.func39,Tryz.ntmps39
  go_wp2_with fail
  with_reducible refine (HP.out _).mono ?_
  rintro e w' ⟨rfl,rfl⟩
  go_wp2_with fail
  go_ret
  exact ⟨rfl,HB.out⟩
end Go.Proofs.YtmfjolmfbdbegaaGreatDoor

namespace Go.Proofs.YtmfjolmfbdbegaaGreatDoor
def NE (st:St):Prop:=∀ x∈st.rules,x.targets≠[]
theorem add_ne {p:BT} {no:Int} {x:RuleM} {st st':St} (h:addE p no x st=.ok st') (hx:x.targets≠[]) (hn:NE st):NE st':=by
 unfold addE at h
 split at h
 ·cases h
 split at h
 ·cases h;exact hn
 ·cases h
  intro y hy
  rcases List.mem_append.1 hy with hy | hy
  ·exact hn y hy
  ·rw [List.mem_singleton.1 hy];exact hx
theorem pat_ne {p:BT} {no:Int} {pat:BT} {is os rc:List BT}:∀ (ts:List BT) {st st':St},foldE (byPatE p no pat is os rc) ts st=.ok st'→NE st→NE st'
 | [],st,st',h,hn=>by cases h;exact hn
 | t :: r,st,st',h,hn=>by
  rw [fold_cons] at h
  obtain ⟨s,h1,h2⟩:=Eb_is h
  unfold byPatE at h1
  split at h1
  ·cases h1
  ·exact pat_ne r h2 (add_ne h1 (by unfold oneOf;simp) hn)
theorem rule_ne {p:BT} {n:Nd} {st st':St} (h:ruleE p n st=.ok st') (hn:NE st):NE st':=by
 unfold ruleE at h
 obtain ⟨ts,_,h⟩:=Eb_is h
 obtain ⟨is,_,h⟩:=Eb_is h
 obtain ⟨os,_,h⟩:=Eb_is h
 split at h
 ·cases h;exact hn
 ·split at h
  ·obtain ⟨q,_,h⟩:=Eb_is h
   exact pat_ne _ h hn
  split at h
  ·cases h
  ·exact add_ne h (by simp) hn
def RdNe (rd:BT→St→Ev St):Prop:=∀ w st st',NE st→rd w st=.ok st'→NE st'
theorem incl_ne {fs:Files} {rd:BT→St→Ev St} (hr:RdNe rd) {b:Bool}:∀ (ws:List BT) {st st':St},NE st→foldE (inclOne fs rd b) ws st=.ok st'→NE st'
 | [],st,st',hn,h=>by cases h;exact hn
 | w :: r,st,st',hn,h=>by
  rw [fold_cons] at h
  obtain ⟨s,h1,h2⟩:=Eb_is h
  unfold inclOne at h1
  split at h1
  ·exact incl_ne hr r (hr w st s hn h1) h2
  ·cases h1;exact incl_ne hr r hn h2
theorem step_ne {fs:Files} {rd:BT→St→Ev St} (hr:RdNe rd) {p:BT} {n:Nd} {st st':St} {b:Bool} (h:stepE fs rd p n st=.ok (st',b)) (hn:NE st):NE st':=by
 unfold stepE at h
 split at h
 ·obtain ⟨s,h1,h2⟩:=Eb_is h
  cases h2
  unfold assignE at h1
  split at h1
  ·cases h1
  ·cases h1;exact hn
 split at h
 ·obtain ⟨s,h1,h2⟩:=Eb_is h
  cases h2
  unfold inclE at h1
  obtain ⟨t,_,h1⟩:=Eb_is h1
  exact incl_ne hr _ hn h1
 split at h
 ·obtain ⟨s,h1,h2⟩:=Eb_is h
  cases h2
  exact rule_ne h1 hn
 split at h
 ·obtain ⟨s,h1,h2⟩:=Eb_is h
  cases h2
  exact hn
 ·cases h;exact hn
theorem doF_ne {fs:Files} {rd:BT→St→Ev St} (hr:RdNe rd) {p:BT}:∀ (f:Nat) (l:List Nd) {st st':St},NE st→doF fs rd p f l st=.ok st'→NE st'
 | 0,_,_,_,_,h=>by unfold doF at h;cases h
 | f+1,[],st,st',hn,h=>by unfold doF at h;cases h;exact hn
 | f+1,n :: r,st,st',hn,h=>by
  unfold doF at h
  split at h
  ·exact doF_ne hr f r hn h
  split at h
  ·exact doF_ne hr f _ hn h
  split at h
  ·cases h
  ·obtain ⟨⟨s,b⟩,h1,h2⟩:=Eb_is h
   exact doF_ne hr f _ (step_ne hr h1 hn) h2
theorem read_ne (fs:Files):∀ k:Nat,RdNe (readE fs k)
 | 0=>fun p st st' hn h=>by
  unfold readE at h
  split at h <;> cases h
 | k+1=>fun p st st' hn h=>by
  unfold readE at h
  split at h
  ·cases h
  split at h
  ·cases h
  ·obtain ⟨l,_,h2⟩:=Eb_is h
   exact doF_ne (read_ne fs k) _ l (st:={ st with read:=st.read++[p] }) hn h2
theorem run_ne {fs:Files} {p:BT} {st:St} (h:runE fs p=.ok st):NE st:=read_ne fs 20 p St.start st (fun x hx=>by cases hx) h
theorem run_fits {fs:Files} {p:BT} {st:St} (h:runE fs p=.ok st):Fits st:=(read_fit fs 20 p St.start st start_fit h).1
end Go.Proofs.YtmfjolmfbdbegaaGreatDoor

namespace Go.Proofs.YtmfjolmfbdbegaaGreatDoor
open Go.RowKit Go.Shelf Go.Maps
attribute [local go_sem] Oper.semAt_some
def RuleAt (w:World) (g k:Nat) (x:RuleM):Prop :=
 ∃ (tg tn tc:Nat) (io oo ro:Option Addr) (im ic om oc rm rc:Nat),0 < tn∧tn≤tc∧tg < w.heap.size∧g < w.heap.size∧w.cell? ⟨tg,0,none⟩=some (.string (txt (headOf x.targets))) ∧
  w.cell? ⟨g,k*6,none⟩=some (.slice (some ⟨tg,0,none⟩) tn tc)∧w.cell? ⟨g,k*6+1,none⟩=some (.bool x.isOpen)∧w.cell? ⟨g,k*6+2,none⟩=some (.string (txt x.stem)) ∧
  w.cell? ⟨g,k*6+3,none⟩=some (.slice io im ic)∧w.cell? ⟨g,k*6+4,none⟩=some (.slice oo om oc)∧w.cell? ⟨g,k*6+5,none⟩=some (.slice ro rm rc)
theorem RuleAt.below {w W:World} {g k:Nat} {x:RuleM} (h:RuleAt w g k x) (hb:Below w.heap.size w W):RuleAt W g k x:=by
 obtain ⟨tg,tn,tc,io,oo,ro,im,ic,om,oc,rm,rc,h1,h2,h3,h4,h5,c0,c1,c2,c3,c4,c5⟩:=h
 have:=hb.size
 exact ⟨tg,tn,tc,io,oo,ro,im,ic,om,oc,rm,rc,h1,h2,by omega,by omega,(hb.cell (p:=⟨tg,0,none⟩) h3).trans h5,(hb.cell (p:=⟨g,k*6,none⟩) h4).trans c0,(hb.cell (p:=⟨g,k*6+1,none⟩) h4).trans c1,(hb.cell (p:=⟨g,k*6+2,none⟩) h4).trans c2,(hb.cell (p:=⟨g,k*6+3,none⟩) h4).trans c3,(hb.cell (p:=⟨g,k*6+4,none⟩) h4).trans c4,(hb.cell (p:=⟨g,k*6+5,none⟩) h4).trans c5⟩
set_option maxRecDepth 100000 in
set_option maxHeartbeats 4000000 in
theorem indexRule_any (o:Option Addr) (n c:Nat) (l:List RuleM) (w:World) (hnl:n=l.length) (hn:n≤1000000) (hx:∀ k x,l[k]? = some x→∃ g,o=some ⟨g,0,none⟩∧n≤c∧RuleAt w g k x) :
  Calls Tryz.prog 38 #[.slice o n c,.func (.func 39) #[] #[]] w fun e w'=>∃ i:Int,e=.returned (.int .i64 i)∧Below w.heap.size w w' ∧
   ((i=-1∧∀ x∈l,firstOk x=false)∨∃ (k:Nat) (x:RuleM),i=k∧l[k]? = some x∧l.find? firstOk=some x):=by
 have HX:=Lib.hid hx
 have HN:=Lib.hid hnl
 clear hx hnl
 go_enter Tryz.func38,Tryz.ntmps38
 go_wp2_with fail
 go_loopw [5,8] (fun _ i wr=>∃ k:Nat,k≤n∧i=.int .i64 k∧Hid (Below w.heap.size w wr)∧Hid (∀ x∈l.take k,firstOk x=false)) (fun _ i _=>n - (intOf i).toNat)
 case atStart=>exact ⟨0,Nat.zero_le _,rfl,Below.refl _ _,fun x hx=>by cases hx⟩
 case round =>
  obtain ⟨k,hk,rfl,HB,HA⟩:=hrel
  by_cases hkn:k < n
  ·obtain ⟨x,hx⟩:∃ x,l[k]? = some x:=⟨_,List.getElem?_eq_getElem (by rw [← HN.out];exact hkn)⟩
   obtain ⟨g,rfl,hnc,hr⟩:=HX.out k x hx
   obtain ⟨tg,tn,tc,io,oo,ro,im,ic,om,oc,rm,rc,h1,h2,h3,h4,h5,c0,c1,c2,c3,c4,c5⟩:=hr.below HB.out
   have hki:(k:Int) < (n:Int):=by omega
   have hC:=endOk_any x tg tn tc io oo ro im ic om oc rm rc wr h1 h2 h5 h3
   have HXk:=Lib.hid hx
   clear hr hx h5
   cases hq:firstOk x with
   | true =>
    rw [hq] at hC
    have HC:=Lib.hid hC
    have HF:Hid (l.find? firstOk=some x):=by
     obtain ⟨h1,h2⟩:=List.getElem?_eq_some_iff.1 HXk.out
     show _=_
     have e:l=l.take k++x :: l.drop (k+1):=by rw [← h2,← List.drop_eq_getElem_cons h1,List.take_append_drop]
     rw [e,List.find?_append,List.find?_eq_none.2 (fun y hy=>by rw [HA.out y hy];simp),List.find?_cons_of_pos hq]
     rfl
    clear hC hq HA
    go_wp2_with fail
    with_reducible refine HC.out.mono ?_
    rintro e w' ⟨rfl,hb2⟩
    have HB2:Hid (Below w.heap.size w w'):=HB.out.trans (hb2.mono HB.out.size)
    clear hb2 HB HC
    go_wp2_with fail
    go_ret
    exact ⟨_,rfl,HB2.out,.inr ⟨k,x,rfl,HXk.out,HF.out⟩⟩
   | false =>
    rw [hq] at hC
    have HC:=Lib.hid hC
    have HA2:Hid (∀ y∈l.take (k+1),firstOk y=false):=fun y hy=>by
     obtain ⟨h1,h2⟩:=List.getElem?_eq_some_iff.1 HXk.out
     rw [List.take_succ_eq_append_getElem h1,h2] at hy
     rcases List.mem_append.1 hy with hy | hy
     ·exact HA.out y hy
     ·rw [List.mem_singleton.1 hy];exact hq
    clear hC hq HA
    go_wp2_with fail
    with_reducible refine HC.out.mono ?_
    rintro e w' ⟨rfl,hb2⟩
    have HB2:Hid (Below w.heap.size w w'):=HB.out.trans (hb2.mono HB.out.size)
    clear hb2 HB HC
    go_wp2_with fail
    go_roundw
    case rel=>exact ⟨k+1,by omega,by go_num,HB2,HA2⟩
    case measure=>simp [intOf];omega
  ·have HT:Hid (∀ x∈l,firstOk x=false):=fun x hx=>HA.out x (by rw [List.take_of_length_le (by rw [← HN.out];omega)];exact hx)
   clear HA
   go_wp2_with fail
   go_ret
   exact ⟨_,rfl,HB.out,.inl ⟨rfl,HT.out⟩⟩
end Go.Proofs.YtmfjolmfbdbegaaGreatDoor

namespace Go.Proofs.YtmfjolmfbdbegaaGreatDoor
open Go.RowKit Go.Shelf Go.Maps
theorem In.textsAt {w0 w:World} {l:List Own} {v:Value} {t:List BT} (h:In w0 (oTexts v t :: l) w) (hn:t≠[]):∃ g cc,v=.slice (some ⟨g,0,none⟩) t.length cc∧t.length≤cc∧g < w.heap.size∧w.cell? ⟨g,0,none⟩=some (.string (txt (headOf t))):=by
 obtain ⟨o,cc,hv,h2,h3⟩:=h.rowShape (E := 9) (k:=1) (enc:=encS) (v:=v) (l:=t) (by simp) (fun _=>rfl)
 cases t with
 | nil=>exact absurd rfl hn
 | cons x r =>
  obtain ⟨g,hg,hl,_,hc⟩:=h3 0 x rfl
  subst hg
  exact ⟨g,cc,hv,h2,hl,hc 0 (by omega)⟩
theorem RS.rules {w0 w:World} {c:Ctx} {L:List Own} {kn:List KV} {st:St} (h:RS w0 c L kn st w) (hne:NE st) :
  ∃ o cc,w.cell? ⟨c.rb,5,none⟩=some (.slice o st.rules.length cc)∧∀ k x,st.rules[k]? = some x→∃ g,o=some ⟨g,0,none⟩∧st.rules.length≤cc∧RuleAt w g k x:=by
 obtain ⟨s,h1,h2,_⟩:=h
 obtain ⟨_,_,_,_,_,q5,_⟩:=nine_cells h1.rcells
 obtain ⟨o,cc,hv,h3,h4⟩:=h1.rowShape (E := 41) (k:=6) (enc:=encR) (v:=s.rv) (l:=s.rules) (by simp [owns]) (fun _=>rfl)
 have hl:s.rules.length=st.rules.length:=by rw [← h2.rules,List.length_map]
 rw [hl] at hv h3
 refine ⟨o,cc,by rw [q5,hv],fun k x hx=>?_⟩
 rw [← h2.rules,List.getElem?_map] at hx
 obtain ⟨⟨y,tv,iv,ov,rv⟩,hy,rfl⟩:=Option.map_eq_some_iff.1 hx
 obtain ⟨g,hg,hlt,_,hc⟩:=h4 k _ hy
 have hym:(y,tv,iv,ov,rv)∈s.rules:=List.mem_of_getElem? hy
 have k1:=In.unpack (h1.pull 3 rfl)
 obtain ⟨r,k2⟩:=k1.first (e:=ruleO (y,tv,iv,ov,rv)) (List.mem_append_left _ (List.mem_map.2 ⟨_,hym,rfl⟩))
 have k3:=In.unpack k2
 have hyn:y.targets≠[]:=hne y (by rw [← h2.rules];exact List.mem_map.2 ⟨_,hym,rfl⟩)
 obtain ⟨tg,tc,htv,ht2,ht3,ht4⟩:=k3.textsAt hyn
 obtain ⟨io,ic,hiv⟩:=k3.textLen (v:=iv) (l:=y.inputs) (by simp)
 obtain ⟨oo,oc,hov⟩:=k3.textLen (v:=ov) (l:=y.order) (by simp)
 obtain ⟨ro,rc,hrv⟩:=k3.textLen (v:=rv) (l:=y.recipe) (by simp)
 simp only at htv hiv hov hrv
 subst htv hiv hov hrv
 exact ⟨g,hg,h3,tg,y.targets.length,tc,io,oo,ro,y.inputs.length,ic,y.order.length,oc,y.recipe.length,rc,List.length_pos_iff.2 hyn,ht2,ht3,hlt,ht4,hc 0 (by omega),hc 1 (by omega),hc 2 (by omega),hc 3 (by omega),hc 4 (by omega),hc 5 (by omega)⟩
end Go.Proofs.YtmfjolmfbdbegaaGreatDoor

namespace Go.Proofs.YtmfjolmfbdbegaaGreatDoor
open Go.RowKit Go.Shelf Go.Sort
theorem flat_encStr:∀ l:List BT,l.flatMap encS=l.map encStr
 | []=>rfl
 | x :: r=>by rw [List.flatMap_cons,flat_encStr r];rfl
theorem texts_row {w:World} {X:Nat→Prop} {v:Value} {l:List BT} (h:(oTexts v l).holds w X):w.ownsRow 0 9 1 v l.length (l.map encStr):=by
 have:=h.1
 rw [flat_encStr] at this
 exact this
theorem row_texts {w:World} {X:Nat→Prop} {v:Value} {l:List BT} (h:w.ownsRow 0 9 1 v l.length (l.map encStr)) (h1:∀ g,v.ownBlock=some g→X g) (h2:∀ m,X m→m < w.heap.size):(oTexts v l).holds w X:=by
 rw [← flat_encStr] at h
 exact ⟨h,h1,h2⟩
theorem row_none {w:World} {v:Value} (h:w.ownsRow 0 9 1 v 0 []):∃ o c,v=.slice o 0 c:=by
 rcases h.2 with ⟨hv,_⟩ | ⟨g,cap,cur,hv,_⟩
 ·exact ⟨_,_,hv⟩
 ·exact ⟨_,_,hv⟩
section
variable {w0 w:World} {L:List Own} {v:Value} {l:List BT}
theorem In.textSort (h:In w0 (oTexts v l :: L) w) (hl:l.length≤1000000000) :
  Calls Tryz.prog 36 #[v] w fun e w'=>e=.returned (.tuple #[])∧In w0 (oTexts v (l.mergeSort fun x y=>decide (x≤y)) :: L) w':=by
 refine h.call1 fun X hX=>?_
 have hr:=texts_row hX
 by_cases h0:l=[]
 ·subst h0
  obtain ⟨o,c,rfl⟩:=row_none hr
  refine (libSort0 o c w).mono ?_
  rintro e w' ⟨rfl,rfl⟩
  refine ⟨rfl,X,?_,Turned.refl _ _,fun _=>.inl⟩
  rw [List.mergeSort_nil]
  exact hX
 ·rcases hr.2 with ⟨_,hz⟩ | ⟨g,cap,cur,rfl,hgb,hgg,hn1,hn2,hn3,hn4⟩
  ·exact absurd (List.eq_nil_of_length_eq_zero hz) h0
  rw [Nat.mul_one] at hn4
  have hgl:g < w.heap.size:=(Array.getElem?_eq_some_iff.1 hgg).1
  refine (libSort g 0 cap l w (holds_of_block hgg hn4) hgl (by omega)).mono ?_
  rintro e w' ⟨rfl,n,os,rfl⟩
  have htl:(l.mergeSort fun x y=>decide (x≤y)).length=l.length:=List.length_mergeSort _
  refine ⟨rfl,X,row_texts ?_ hX.2.1 ?_,turned_grown (grownBy_sorted _) (fun k hk=>by cases hk;exact hX.2.1 g rfl),fun _=>.inl⟩
  ·rw [htl]
   exact ownsRow_sorted htl (Nat.zero_le _) hgg hn1 hn2 hn3
  ·intro m hm
   exact Nat.lt_of_lt_of_le (hX.2.2 m hm) (grownBy_sorted (w:=w) (g:=g) (n:=n) (os:=os) _).size
theorem In.textCompact {o:Option Addr} {n c:Nat} (h:In w0 (oTexts (.slice o n c) (l.mergeSort fun x y=>decide (x≤y)) :: L) w) (hl:l.length≤1000000000) :
  Calls Tryz.prog 37 #[.slice o n c] w fun e w'=>e=.returned (.slice o (sortT l).length c)∧In w0 (oTexts (.slice o (sortT l).length c) (sortT l) :: L) w':=by
 have htl:(l.mergeSort fun x y=>decide (x≤y)).length=l.length:=List.length_mergeSort _
 have hcs:Lib.compact (l.mergeSort fun x y=>decide (x≤y))=sortT l:=compact_sort l
 have hsl:=sort_len l
 generalize (l.mergeSort fun x y=>decide (x≤y))=ts at *
 refine h.call1 fun X hX=>?_
 have hr:=texts_row hX
 by_cases h0:ts=[]
 ·subst h0
  have hs:sortT l=[]:=by rw [← hcs];rfl
  have hn:n=0:=by
   obtain ⟨o2,c2,hv⟩:=row_none hr
   cases hv;rfl
  subst hn
  rw [hs]
  refine (libCompact0 o c w).mono ?_
  rintro e w' ⟨rfl,rfl⟩
  exact ⟨rfl,X,hX,Turned.refl _ _,fun _=>.inl⟩
 ·rcases hr.2 with ⟨_,hz⟩ | ⟨g,cap,cur,hv,hgb,hgg,hn1,hn2,hn3,hn4⟩
  ·exact absurd (List.eq_nil_of_length_eq_zero hz) h0
  cases hv
  rw [Nat.mul_one] at hn4
  have hgl:g < w.heap.size:=(Array.getElem?_eq_some_iff.1 hgg).1
  have hH:=holds_of_block hgg hn4
  have hC:=libCompact g 0 c ts w hH (by omega) (by omega)
  rw [hcs] at hC
  refine hC.mono ?_
  rintro e w' ⟨rfl,q,rfl⟩
  have hsz:(sortT l++List.replicate (ts.length - (sortT l).length) []).toArray.size=ts.length:=by simp;omega
  have hgr:=putRow_grown (w:=w) (g:=g) (n:=q) (sortT l++List.replicate (ts.length - (sortT l).length) []).toArray
  have hb2:(putRow encStr (Sort.ahead w q) g 0 (sortT l++List.replicate (ts.length - (sortT l).length) []).toArray).heap[g]? = some (.cells (putCells encStr 0 (sortT l++List.replicate (ts.length - (sortT l).length) []).toArray cur) 9 (0,0)):=by
   have:=heap_sorted (n:=q) (os:=#[]) (sortT l++List.replicate (ts.length - (sortT l).length) []).toArray hgg
   unfold grow at this
   rw [Array.append_empty] at this
   exact this
  have htk:=take_putCells cur (sortT l++List.replicate (ts.length - (sortT l).length) []) (by simp;omega)
  refine ⟨rfl,X,row_texts ⟨by simp,.inr ⟨g,c,_,rfl,Nat.zero_le _,hb2,by omega,hn2,by simp [putCells,hn3],?_⟩⟩ (fun k hk=>hX.2.1 k hk) (fun m hm=>Nat.lt_of_lt_of_le (hX.2.2 m hm) hgr.size),turned_grown hgr (fun k hk=>by cases hk;exact hX.2.1 g rfl),fun _=>.inl⟩
  rw [Nat.mul_one]
  have e1:=congrArg (List.take (sortT l).length) htk
  rw [List.take_take,Nat.min_eq_left (by simp)] at e1
  rw [e1,List.map_append,List.take_append_of_le_length (by simp),List.take_of_length_le (by simp)]
end
end Go.Proofs.YtmfjolmfbdbegaaGreatDoor

namespace Go.Proofs.YtmfjolmfbdbegaaGreatDoor
open Go.RowKit Go.Shelf Go.Maps
attribute [local go_sem] Oper.semAt_some
structure MV where
 ev:Value
 rv:Value
 pv:Value
 wv:Value
 rules:List RV
abbrev makeC (m:MV) (f:BT):List Value:=[m.ev,m.rv,m.pv,.string (txt f),m.wv]
abbrev makeOwns (m:MV) (st:St):List Own:=[oEnv m.ev st.env,oRow 41 6 encR m.rv m.rules,oAll (m.rules.map ruleO),oTexts m.pv (phonyOf st.phony),oTexts m.wv st.read]
def MakePost (w0:World) (L:List Own) (st:St) (e:Ending) (w:World):Prop :=
 ∃ m:MV,e=.returned (.agg (makeC m (firstOf st.rules)).toArray)∧m.rules.map (·.1)=st.rules∧In w0 (makeOwns m st++L) w
section
variable {w0 w w':World} {c:Ctx} {L:List Own} {kn:List KV} {st:St} {s:SV}
theorem five_cells12 {b:Nat} {a0 a1 a2 a3 a4:Value} {T:TypeId} (h:w.heap[b]? = some (.cells #[a0,a1,a2,a3,a4] T (0,0))) :
  w.cell? ⟨b,0,none⟩=some a0∧w.cell? ⟨b,1,none⟩=some a1∧w.cell? ⟨b,2,none⟩=some a2∧w.cell? ⟨b,3,none⟩=some a3∧w.cell? ⟨b,4,none⟩=some a4∧∀ j,w.frozen? ⟨b,j,none⟩=false:=by
 refine ⟨?_,?_,?_,?_,?_,Lib.frozen_of_heap h⟩ <;> (rw [Lib.cell_of_heap h];rfl)
end
theorem In.shapes12 {w0 w:World} {c:Ctx} {L:List Own} {st:St} {s:SV} (h:In w0 (owns c s st++L) w) :
  (∃ o n c,s.ev=.slice o n c)∧(∃ o n c,s.rv=.slice o n c)∧∃ o n c,s.wv=.slice o n c:=by
 refine ⟨?_,?_,?_⟩
 ·obtain ⟨X,hX,_⟩:=h.get (e:=oEnv s.ev st.env) (by simp [owns])
  rcases hX.1 with ⟨h,_⟩ | ⟨b,c,h,_⟩
  ·exact ⟨_,_,_,h⟩
  ·exact ⟨_,_,_,h⟩
 ·obtain ⟨o,c,hv,_⟩:=h.rowShape (E := 41) (k:=6) (enc:=encR) (v:=s.rv) (l:=s.rules) (by simp [owns]) (fun _=>rfl)
  exact ⟨_,_,_,hv⟩
 ·obtain ⟨o,c,hv⟩:=h.textLen (v:=s.wv) (l:=st.read) (by simp [owns])
  exact ⟨_,_,_,hv⟩
abbrev make0:List Value:=[.slice none 0 0,.slice none 0 0,.slice none 0 0,.string ⟨#[]⟩,.slice none 0 0]
abbrev ownsP (c:Ctx) (s:SV) (st:St) (L:List Own):List Own :=
 [oCells c.rb (rCells c s st.done) 86,oEnv s.ev st.env,oRow 41 6 encR s.rv s.rules,oAll (s.rules.map ruleO),oTexts s.wv st.read,oMap c.fb c.fn (firstF c.fs),oMap c.nb s.nn (knownF s.known),oAll (s.known.map knownO)]++L
theorem In.sorted12 {w0 w:World} {c:Ctx} {L:List Own} {st:St} {s:SV} {v:Value} (h:In w0 (oTexts v (phonyOf st.phony) :: ownsP c s st L) w) :
  In w0 (owns c { s with pv:=v } { st with phony:=phonyOf st.phony }++L) (w.setCell ⟨c.rb,6,none⟩ v):=by
 have k3:=h.push 4 (Nat.le_add_left 4 _)
 exact In.set k3 6 v
abbrev ownsE (c:Ctx) (s:SV) (st:St) (v:Value) (cs:List Value):List Own :=
 [oCells c.rb cs 86,oEnv s.ev st.env,oRow 41 6 encR s.rv s.rules,oAll (s.rules.map ruleO),oTexts v (phonyOf st.phony),oTexts s.wv st.read,oMap c.fb c.fn (firstF c.fs),oMap c.nb s.nn (knownF s.known),oAll (s.known.map knownO)]
theorem end_fin {w0 w:World} {c:Ctx} {L:List Own} {st:St} {s:SV} {v ve vr vw:Value} {b:Nat} {cs:List Value} {T:TypeId} {f:BT} (h:In w0 (ownsE c s st v cs++([oCells b make0 T]++L)) w) (he:s.ev=ve) (hr:s.rv=vr) (hw:s.wv=vw) (hk:s.rules.map (·.1)=st.rules) (hf:firstOf st.rules=f) :
  ∀ W,W=(((((w.setCell ⟨b,0,none⟩ ve).setCell ⟨b,1,none⟩ vr).setCell ⟨b,2,none⟩ v).setCell ⟨b,3,none⟩ (.string (txt f))).setCell ⟨b,4,none⟩ vw)→MakePost w0 L st (.returned (.agg #[ve,vr,v,.string (txt f),vw])) W∧W.heap[b]? = some (.cells #[ve,vr,v,.string (txt f),vw] T (0,0)):=by
 rintro W rfl
 have k1:=h.pull 9 rfl
 have k2:=((((k1.set 0 ve).set 1 vr).set 2 v).set 3 (.string (txt f))).set 4 vw
 have h1:=k2.tail.tail
 have h2:=(h1.pull 5 rfl).tail
 have h3:=(h2.pull 5 rfl).tail
 have h4:=(h3.pull 5 rfl).tail
 refine ⟨⟨⟨ve,vr,v,vw,s.rules⟩,by rw [hf],hk,?_⟩,k2.cells List.mem_cons_self⟩
 rw [← he,← hr,← hw] at h4 ⊢
 exact h4
set_option maxRecDepth 100000 in
set_option maxHeartbeats 8000000 in
theorem rend_any (w0:World) (c:Ctx) (L:List Own) (kn:List KV) (st:St) (w:World) (h:RS w0 c L kn st w) (hne:NE st) (hr:st.rules.length≤1000000) (hp:st.phony.length≤1000000000) :
  Calls Tryz.prog 22 #[.pointer (some ⟨c.rb,0,none⟩)] w (MakePost w0 L st):=by
 obtain ⟨xb,hxb⟩:∃ xb,xb=w.heap.size:=⟨_,rfl⟩
 have hB:=h.more (l:=[oCells w.heap.size make0 30]) ((In.nil (Below.refl _ w)).alloc make0 30)
 rw [← hxb] at hB
 obtain ⟨s,h1,hok,_⟩:=hB
 obtain ⟨o,cc,hpv⟩:=h1.textLen (v:=s.pv) (l:=st.phony) (by simp [owns])
 obtain ⟨_,_,_,_,_,_,q6,_⟩:=nine_cells h1.rcells
 rw [hpv] at q6
 have k1:In w0 (oTexts (.slice o st.phony.length cc) st.phony :: ownsP c s st ([oCells xb make0 30]++L)) (w.alloc (.cells make0.toArray 30)):=by
  rw [← hpv];exact h1.pull 4 rfl
 have HS:=Lib.hid (k1.textSort (by omega))
 have HNe:=Lib.hid hne
 have HOk:=Lib.hid hok
 have HP:=Lib.hid hp
 have HR:=Lib.hid hr
 obtain ⟨m,hm⟩:∃ m,m=st.phony.length:=⟨_,rfl⟩
 rw [← hm] at q6 HS
 have HM:=Lib.hid hm
 have hpv2:s.pv=.slice o m cc:=by rw [hm];exact hpv
 have HPv:=Lib.hid hpv2
 clear hpv2
 clear h h1 hok hpv k1 hne hp hr hm
 subst hxb
 go_enter Tryz.func22,Tryz.ntmps22
 go_wp2_with fail
 with_reducible refine HS.out.mono ?_
 rintro e w2 ⟨rfl,hI2⟩
 have HC:=Lib.hid (hI2.textCompact (by have:=HP.out;omega))
 obtain ⟨_,_,_,_,_,_,q6b,_⟩:=nine_cells (hI2.cells (b:=c.rb) (cs:=rCells c s st.done) (t := 86) (by simp))
 rw [HPv.out] at q6b
 clear hI2 HS q6
 go_wp2_with fail
 with_reducible refine HC.out.mono ?_
 rintro e w3 ⟨rfl,hI3⟩
 obtain ⟨_,_,_,_,_,_,q6c,_,_,qf⟩:=nine_cells (hI3.cells (b:=c.rb) (cs:=rCells c s st.done) (t := 86) (by simp))
 have qf6:=qf 6
 obtain ⟨ps,hps⟩:∃ ps,ps=(sortT st.phony).length:=⟨_,rfl⟩
 rw [← hps] at hI3 ⊢
 have hI4:=In.sorted12 hI3
 have hRS4:RS w0 c ([oCells w.heap.size make0 30]++L) [] { st with phony:=phonyOf st.phony } (w3.setCell ⟨c.rb,6,none⟩ (.slice o ps cc)):=⟨_,hI4,⟨HOk.out.rules,HOk.out.known,HOk.out.nn,HOk.out.few⟩,by simp⟩
 obtain ⟨o5,c5,q5o,hx5⟩:=hRS4.rules HNe.out
 obtain ⟨n5,hn5⟩:∃ n5,n5=st.rules.length:=⟨_,rfl⟩
 have q5:(w3.setCell ⟨c.rb,6,none⟩ (.slice o ps cc)).cell? ⟨c.rb,5,none⟩=some (.slice o5 n5 c5):=by rw [hn5];exact q5o
 have hx5':∀ k x,st.rules[k]? = some x→∃ g,o5=some ⟨g,0,none⟩∧n5≤c5∧RuleAt (w3.setCell ⟨c.rb,6,none⟩ (.slice o ps cc)) g k x:=by rw [hn5];exact hx5
 have HIx:=Lib.hid (indexRule_any o5 n5 c5 st.rules _ hn5 (by rw [hn5];exact HR.out) hx5')
 have HX:=Lib.hid hx5'
 have HI4:=Lib.hid hI4
 have HRv:Hid (s.rv=.slice o5 n5 c5):=by
  obtain ⟨_,_,_,_,_,z5,_⟩:=nine_cells hI4.rcells
  exact Option.some.inj (z5.symm.trans q5)
 have HN5:=Lib.hid hn5
 clear q5o hI3 HC q6b hRS4 hx5 hx5' hI4 qf hps hn5
 go_wp2_with fail
 with_reducible refine HIx.out.mono ?_
 rintro e w5 ⟨i,rfl,hb5,hi⟩
 have hI5:=HI4.out.below hb5
 have hbx:=hI5.cells (b:=w.heap.size) (cs:=make0) (t := 30) (by simp)
 obtain ⟨m0,m1,m2,m3,m4,mf⟩:=five_cells12 hbx
 obtain ⟨_,_,_,_,e4,e5,e6,e7,e8,ef⟩:=nine_cells hI5.rcells
 obtain ⟨⟨oe,ne,ce,he⟩,_,⟨ow,nw,cw,hw⟩⟩:=hI5.shapes12
 have hrv:=HRv.out
 simp only at he hw e4 e5 e6 e7 e8
 rw [he] at e4
 rw [hrv] at e5
 rw [hw] at e8
 have HSh:Hid (s.ev=.slice oe ne ce∧s.rv=.slice o5 n5 c5∧s.wv=.slice ow nw cw):=⟨he,hrv,hw⟩
 clear he hrv hw
 have mf0:=mf 0
 have mf1:=mf 1
 have mf2:=mf 2
 have mf3:=mf 3
 have mf4:=mf 4
 have HI5:=Lib.hid hI5
 have HX5:Hid (∀ k x,st.rules[k]? = some x→∃ g,o5=some ⟨g,0,none⟩∧n5≤c5∧RuleAt w5 g k x):=fun k x hk=>by
  obtain ⟨g,g1,g2,g3⟩:=HX.out k x hk
  exact ⟨g,g1,g2,g3.below hb5⟩
 clear HX HIx HI4 hb5 hI5 hbx q5 q6c qf6 mf
 rcases hi with ⟨rfl,hno⟩ | ⟨k,x,rfl,hk,hf⟩
 ·have HF:Hid (firstOf st.rules=[]):=by
   show _=_
   unfold firstOf
   rw [List.find?_eq_none.2 (fun y hy=>by rw [hno y hy];simp)]
  clear hno
  go_wp2_with fail
  obtain ⟨hM,hc⟩:=end_fin (f:=[]) HI5.out HSh.out.1 HSh.out.2.1 HSh.out.2.2 HOk.out.rules HF.out _ rfl
  have HMk:=Lib.hid hM
  clear hM
  simp only [show txt []=(⟨#[]⟩:ByteArray) from rfl] at HMk hc
  generalize (((((w5.setCell ⟨w.heap.size,0,none⟩ (.slice oe ne ce)).setCell ⟨w.heap.size,1,none⟩ (.slice o5 n5 c5)).setCell ⟨w.heap.size,2,none⟩ (.slice o ps cc)).setCell ⟨w.heap.size,3,none⟩ (.string ⟨#[]⟩)).setCell ⟨w.heap.size,4,none⟩ (.slice ow nw cw))=W at HMk hc ⊢
  obtain ⟨z0,z1,z2,z3,z4,_⟩:=five_cells12 hc
  refine ⟨rfl,_,?_,HMk.out⟩
  simp [results,Tryz.results22,go_sem,z0,z1,z2,z3,z4]
 ·have HF:Hid (firstOf st.rules=headOf x.targets):=by
   show _=_
   unfold firstOf
   rw [hf]
  obtain ⟨g,rfl,hnc,hr⟩:=HX5.out k x hk
  obtain ⟨tg,tn,tc,io,oo,ro,im,ic,om,oc,rm,rc,h1,h2,h3,h4,h5,c0,c1,c2,c3,c4,c5'⟩:=hr
  have hkn:(k:Int) < (n5:Int):=by
   have:=(List.getElem?_eq_some_iff.1 hk).1
   have:=HN5.out
   omega
  have hk0:(0:Int)≤(k:Int):=by omega
  have hk0':((k:Int) ≥ 0):=hk0
  have ht0:(0:Int) < (tn:Int):=by omega
  have ef7:=ef 7
  clear hf hk h4 c1 c2 c3 c4 c5'
  go_wp2_with fail
  have hI6:In w0 (ownsE c s st (.slice o ps cc) ((rCells c { s with pv:=.slice o ps cc } st.done).set 7 (.string (txt (headOf x.targets))))++([oCells w.heap.size make0 30]++L)) (w5.setCell ⟨c.rb,7,none⟩ (.string (txt (headOf x.targets)))) :=
   In.set HI5.out 7 (.string (txt (headOf x.targets)))
  obtain ⟨hM,hc⟩:=end_fin (f:=headOf x.targets) hI6 HSh.out.1 HSh.out.2.1 HSh.out.2.2 HOk.out.rules HF.out _ rfl
  have HMk:=Lib.hid hM
  clear hM hI6
  generalize ((((((w5.setCell ⟨c.rb,7,none⟩ (.string (txt (headOf x.targets)))).setCell ⟨w.heap.size,0,none⟩ (.slice oe ne ce)).setCell ⟨w.heap.size,1,none⟩ (.slice (some ⟨g,0,none⟩) n5 c5)).setCell ⟨w.heap.size,2,none⟩ (.slice o ps cc)).setCell ⟨w.heap.size,3,none⟩ (.string (txt (headOf x.targets)))).setCell ⟨w.heap.size,4,none⟩ (.slice ow nw cw))=W at HMk hc ⊢
  obtain ⟨z0,z1,z2,z3,z4,_⟩:=five_cells12 hc
  refine ⟨rfl,_,?_,HMk.out⟩
  simp [results,Tryz.results22,go_sem,z0,z1,z2,z3,z4]
end Go.Proofs.YtmfjolmfbdbegaaGreatDoor
