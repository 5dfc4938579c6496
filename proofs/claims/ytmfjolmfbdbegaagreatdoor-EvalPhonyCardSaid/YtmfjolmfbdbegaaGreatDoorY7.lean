/-
  What Run answers. No condition but sizes.
  What the statements' own sames, same and as answer. No condition.
  Chapter 12's example, at the head of all statements: what it comes to. No condition.
  Chapter 12's example, walked. No condition.
-/
import Derived.Deep.RegionHeld3
import Derived.Test.YtmfjolmfbdbegaaGreatDoorY5
import Derived.Test.YtmfjolmfbdbegaaGreatDoorY6
namespace Go.Proofs.YtmfjolmfbdbegaaGreatDoor
open Go.RowKit Go.Shelf Go.Maps
attribute [local go_sem] Oper.semAt_some
def RunPost (w:World) (r:Ev St) (e:Ending) (w':World):Prop :=
 (∃ f,r=.error f∧e=.returned (.tuple #[.agg make0.toArray,.int .i64 f.1,.agg #[.string (txt f.2.1),.int .i64 f.2.2]])∧Below w.heap.size w w') ∨
 ∃ (st:St) (m:MV),r=.ok st∧e=.returned (.tuple #[.agg (makeC m (firstOf st.rules)).toArray,.int .i64 0,.agg #[.string ⟨#[]⟩,.int .i64 0]])∧m.rules.map (·.1)=st.rules∧In w (makeOwns m st) w'
theorem In.shapesM {w0 w:World} {L:List Own} {m:MV} {st:St} (h:In w0 (makeOwns m st++L) w) :
  (∃ o n c,m.ev=.slice o n c)∧(∃ o n c,m.rv=.slice o n c)∧(∃ o n c,m.pv=.slice o n c)∧∃ o n c,m.wv=.slice o n c:=by
 refine ⟨?_,?_,?_,?_⟩
 ·obtain ⟨X,hX,_⟩:=h.get (e:=oEnv m.ev st.env) (by simp [makeOwns])
  rcases hX.1 with ⟨h,_⟩ | ⟨b,c,h,_⟩
  ·exact ⟨_,_,_,h⟩
  ·exact ⟨_,_,_,h⟩
 ·obtain ⟨o,c,hv,_⟩:=h.rowShape (E := 41) (k:=6) (enc:=encR) (v:=m.rv) (l:=m.rules) (by simp [makeOwns]) (fun _=>rfl)
  exact ⟨_,_,_,hv⟩
 ·obtain ⟨o,c,hv⟩:=h.textLen (v:=m.pv) (l:=phonyOf st.phony) (by simp [makeOwns])
  exact ⟨_,_,_,hv⟩
 ·obtain ⟨o,c,hv⟩:=h.textLen (v:=m.wv) (l:=st.read) (by simp [makeOwns])
  exact ⟨_,_,_,hv⟩
theorem RS.setFault {w0 w:World} {c:Ctx} {kn:List KV} {st:St} {b:Nat} {x:Own} {T:TypeId} (h:RS w0 c [oCells b [.int .i64 0,.string ⟨#[]⟩,.int .i64 0] T,x] kn st w):RS w0 c [oCells b [.int .i64 0,.string ⟨#[]⟩,.int .i64 0] T,x] kn st (set3 w b (.int .i64 0) (.string ⟨#[]⟩) (.int .i64 0)):=by
 obtain ⟨s,h1,h2⟩:=h
 have k1:=h1.pull 9 rfl
 have k2:=((k1.set 0 (.int .i64 0)).set 1 (.string ⟨#[]⟩)).set 2 (.int .i64 0)
 exact ⟨s,k2.push 9 (Nat.le_add_left 9 _),h2⟩
abbrev runB (w:World) (p:BT):World:=((w.alloc (.cells #[.string (txt p)] 9)).alloc (.cells #[.slice none 0 0,.slice none 0 0,.slice none 0 0,.string ⟨#[]⟩,.slice none 0 0] 30)).alloc (.cells #[.string ⟨#[]⟩,.int .i64 0] 33)
theorem In.sets7 {w W7:World} {L:List Own} {b d:Nat} {x y:Value} {T1 T2:TypeId} (h:In w (oCells b make0 T1 :: oCells d [x,y] T2 :: L) W7) (a0 a1 a2 a3 a4 u0 u1:Value) (W:World)
  (hW:W=((((((W7.setCell ⟨b,0,none⟩ a0).setCell ⟨b,1,none⟩ a1).setCell ⟨b,2,none⟩ a2).setCell ⟨b,3,none⟩ a3).setCell ⟨b,4,none⟩ a4).setCell ⟨d,0,none⟩ u0).setCell ⟨d,1,none⟩ u1) :
  In w (oCells d [u0,u1] T2 :: oCells b [a0,a1,a2,a3,a4] T1 :: L) W:=by
 have k1:=((((h.set 0 a0).set 1 a1).set 2 a2).set 3 a3).set 4 a4
 have k2:=(k1.swap.set 0 u0).set 1 u1
 rw [hW]
 exact k2
set_option maxRecDepth 100000 in
set_option maxHeartbeats 8000000 in
theorem run_any (al:Bool) (hRu:RuleC al) (w:World) (o:Option Addr) (m cc:Nat) (fs:Files) (p:BT) (hst:Std w) (hfs:FilesAt w (.slice o m cc) fs) (hl:fs.length≤1000000000) (hx:∀ x∈fs,x.1.length≤1000000∧x.2.length≤1000000) (hp:p.length≤4000) (hg:GG al (runE fs p)) :
  Calls Tryz.prog 10 #[.slice o m cc,.string (txt p)] w (RunPost w (runE fs p)):=by
 have hb0:Below w.heap.size w (runB w p):=(((Below.refl _ w).alloc (Nat.le_refl _) _).alloc (by simp) _).alloc (by simp;omega) _
 have hfs0:=hfs.below hb0
 have hst0:Std (runB w p):=hst.below hb0
 have hW3:(runB w p).heap.size=w.heap.size+1+1+1:=by simp
 have h3:In w [oCells (w.heap.size+1+1) [.string ⟨#[]⟩,.int .i64 0] 33,oCells (w.heap.size+1) make0 30,oCells w.heap.size [.string (txt p)] 9] (runB w p):=by
  have a1:=(In.nil (Below.refl _ w)).alloc [.string (txt p)] 9
  have a2:=a1.alloc make0 30
  have a3:=a2.alloc [.string ⟨#[]⟩,.int .i64 0] 33
  simp only [World.size_alloc] at a3
  exact a3
 obtain ⟨W3,hW⟩:∃ W3,W3=runB w p:=⟨_,rfl⟩
 rw [← hW] at hb0 hfs0 hst0 hW3 h3
 have HW:=Lib.hid hW
 clear hW
 have hBg:=ebegin_any W3 (.slice o m cc) fs hfs0 hl (fun x h=>(hx x h).1)
 rw [hW3] at hBg
 have HBg:=Lib.hid hBg
 have HFs:Hid (FilesAt W3 (.slice o m cc) fs∧Std W3):=⟨hfs0,hst0⟩
 have HL:Hid (fs.length≤1000000000∧∀ x∈fs,x.1.length≤1000000∧x.2.length≤1000000):=⟨hl,hx⟩
 have HB0:=Lib.hid hb0
 have H3:=Lib.hid h3
 have HS3:=Lib.hid hW3
 have HG:=Lib.hid hg
 clear hBg hfs0 hst0 hfs hst hl hx hb0 h3 hW3 hg
 go_enter Tryz.func10,Tryz.ntmps10
 go_wp2_with fail
 rw [show (((w.alloc (.cells #[.string (txt p)] 9)).alloc (.cells #[.slice none 0 0,.slice none 0 0,.slice none 0 0,.string ⟨#[]⟩,.slice none 0 0] 30)).alloc (.cells #[.string ⟨#[]⟩,.int .i64 0] 33))=W3 from HW.out.symm]
 with_reducible refine HBg.out.mono ?_
 rintro e w4 ⟨n,rfl,hRS⟩
 have HRS:=Lib.hid hRS
 clear hRS HBg HW
 go_wp2_with fail
 have hRS5:=HRS.out.more (l:=[oCells w4.heap.size [.pointer (some ⟨w.heap.size+1+1+1+2,0,none⟩)] 57]) ((In.nil (Below.refl _ w4)).alloc _ _)
 generalize hW5:w4.alloc (.cells #[.pointer (some ⟨w.heap.size+1+1+1+2,0,none⟩)] 57)=W5 at hRS5 ⊢
 have hRS6:=hRS5.more (l:=[oCells W5.heap.size [.int .i64 0,.string ⟨#[]⟩,.int .i64 0] 60]) ((In.nil (Below.refl _ W5)).alloc _ _)
 have hrun:=run1_any al W3 (ctxB (.slice o m cc) fs W3 n) hRu HFs.out.2 ⟨HFs.out.1,HL.out.1,fun x h=>(HL.out.2 x h).2⟩ _ p hp ⟨w4.heap.size,0,none⟩ ⟨w.heap.size,0,none⟩ (fltB W5) hRS6
  (by
   rw [Lib.cell_of_heap (hRS6.cellsAt (b:=w4.heap.size) (cs:=[.pointer (some ⟨w.heap.size+1+1+1+2,0,none⟩)]) (t := 57) (by simp))]
   show some _=some _
   rw [← HS3.out]
   rfl)
  (by
   have h1:=H3.out.cells (b:=w.heap.size) (cs:=[.string (txt p)]) (t := 9) (by simp)
   have h2:=hRS6.back.block w.heap.size (by rw [HS3.out];omega)
   rw [Lib.cell_of_heap (h2.trans h1)]
   rfl) HG.out
 have HCt:=Lib.hid (caught_any (.pointer (some ⟨w4.heap.size,0,none⟩)) (.pointer (some ⟨w.heap.size,0,none⟩)) W5 (fun w2=>∃ st,runE fs p=.ok st∧RS W3 (ctxB (.slice o m cc) fs W3 n) [oCells W5.heap.size [.int .i64 0,.string ⟨#[]⟩,.int .i64 0] 60,oCells w4.heap.size [.pointer (some ⟨w.heap.size+1+1+1+2,0,none⟩)] 57] [] st w2)
  (fun f w2=>runE fs p=.error f∧In W3 [oCells W5.heap.size [.int .i64 0,.string ⟨#[]⟩,.int .i64 0] 60,oCells w4.heap.size [.pointer (some ⟨w.heap.size+1+1+1+2,0,none⟩)] 57] w2)
  (hrun.mono (by
   rintro e w2 (⟨f,hf,rfl,hI⟩ | ⟨st,hs,rfl,hI⟩)
   ·exact ⟨hI.cells (b:=W5.heap.size) (cs:=[.int .i64 0,.string ⟨#[]⟩,.int .i64 0]) (by simp),.inr ⟨f,rfl,hf,hI⟩⟩
   ·exact ⟨hI.cellsAt (b:=W5.heap.size) (cs:=[.int .i64 0,.string ⟨#[]⟩,.int .i64 0]) (by simp),.inl ⟨rfl,st,hs,hI⟩⟩)))
 clear hrun hRS5 hRS6 hW5 HRS HG
 with_reducible refine HCt.out.mono ?_
 rintro e W6 (⟨w2,⟨st,hs,hR⟩,rfl,hW6⟩ | ⟨f,w2,⟨hf,hI⟩,rfl,hW6⟩)
 ·have hR6:=hR.setFault
  rw [← hW6] at hR6
  have hR7:=hR6.more (l:=[oCells W6.heap.size [.int .i64 0,.string ⟨#[]⟩,.int .i64 0] 60]) ((In.nil (Below.refl _ W6)).alloc _ _)
  have hfit:=run_fits hs
  have HE:=Lib.hid (rend_any W3 _ _ [] st _ hR7 (run_ne hs) (by have:=hfit.fit.rules;have:=hfit.done;omega) (by have:=hfit.fit.phony;have:=hfit.done;omega))
  have hpc:(W6.alloc (.cells #[.int .i64 0,.string ⟨#[]⟩,.int .i64 0] 60)).cell? ⟨w4.heap.size,0,none⟩=some (.pointer (some ⟨w.heap.size+1+1+1+2,0,none⟩)):=by
   rw [Lib.cell_of_heap (hR7.cellsAt (b:=w4.heap.size) (cs:=[.pointer (some ⟨w.heap.size+1+1+1+2,0,none⟩)]) (t := 57) (by simp))]
   rfl
  have HSt:=Lib.hid hs
  have hrb:(ctxB (.slice o m cc) fs W3 n).rb=w.heap.size+1+1+1+2:=by
   show W3.heap.size+2=_
   rw [HS3.out]
  rw [hrb] at HE
  clear hR hR6 hR7 hfit hs HCt hW6 hrb
  go_wp2_with fail
  with_reducible refine HE.out.mono ?_
  rintro e W8 ⟨mv,rfl,hrl,h8⟩
  obtain ⟨⟨o1,n1,c1,s1⟩,⟨o2,n2,c2,s2⟩,⟨o3,n3,c3,s3⟩,⟨o4,n4,c4,s4⟩⟩:=h8.shapesM
  obtain ⟨ev,rv,pv,wv,rules⟩:=mv
  simp only at s1 s2 s3 s4
  subst s1 s2 s3 s4
  have hJ:=H3.out.join h8
  obtain ⟨m0,m1,m2,m3,m4,mf⟩:=five_cells12 (hJ.cells (b:=w.heap.size+1) (cs:=make0) (t := 30) (by simp))
  obtain ⟨p0,p1,pf⟩:=two_cells (hJ.cells (b:=w.heap.size+1+1) (cs:=[.string ⟨#[]⟩,.int .i64 0]) (t := 33) (by simp))
  have mf0:=mf 0
  have mf1:=mf 1
  have mf2:=mf 2
  have mf3:=mf 3
  have mf4:=mf 4
  have HJ:=Lib.hid hJ
  have HRl:=Lib.hid hrl
  clear hJ mf h8 hrl HE hpc
  simp only
  go_wp2_with fail
  have hJ2:=In.sets7 (((HJ.out.pull 8 rfl).pull 9 rfl)) (.slice o1 n1 c1) (.slice o2 n2 c2) (.slice o3 n3 c3) (.string (txt (firstOf st.rules))) (.slice o4 n4 c4) (.string ⟨#[]⟩) (.int .i64 0) _ rfl
  generalize (((((((W8.setCell ⟨w.heap.size+1,0,none⟩ (.slice o1 n1 c1)).setCell ⟨w.heap.size+1,1,none⟩ (.slice o2 n2 c2)).setCell ⟨w.heap.size+1,2,none⟩ (.slice o3 n3 c3)).setCell ⟨w.heap.size+1,3,none⟩ (.string (txt (firstOf st.rules)))).setCell ⟨w.heap.size+1,4,none⟩ (.slice o4 n4 c4)).setCell ⟨w.heap.size+1+1,0,none⟩ (.string ⟨#[]⟩)).setCell ⟨w.heap.size+1+1,1,none⟩ (.int .i64 0))=W9 at hJ2 ⊢
  obtain ⟨z0,z1,z2,z3,z4,_⟩:=five_cells12 (hJ2.cells (b:=w.heap.size+1) (cs:=[.slice o1 n1 c1,.slice o2 n2 c2,.slice o3 n3 c3,.string (txt (firstOf st.rules)),.slice o4 n4 c4]) (t := 30) (by simp))
  obtain ⟨y0,y1,_⟩:=two_cells (hJ2.cells (b:=w.heap.size+1+1) (cs:=[.string ⟨#[]⟩,.int .i64 0]) (t := 33) (by simp))
  have HM9:Hid (In w (makeOwns ⟨.slice o1 n1 c1,.slice o2 n2 c2,.slice o3 n3 c3,.slice o4 n4 c4,rules⟩ st) W9):=In.front (l1:=makeOwns ⟨.slice o1 n1 c1,.slice o2 n2 c2,.slice o3 n3 c3,.slice o4 n4 c4,rules⟩ st) hJ2.tail.tail
  clear hJ2 m0 m1 m2 m3 m4 mf0 mf1 mf2 mf3 mf4 p0 p1 HJ
  refine ⟨rfl,_,?_,.inr ⟨st,_,HSt.out,rfl,HRl.out,HM9.out⟩⟩
  simp [results,Tryz.results10,go_sem,z0,z1,z2,z3,z4,y0,y1]
 ·have HNz:=run_nz hf
  have HF:=Lib.hid hf
  have e1:(f.1 != 0)=true:=by rw [bne_iff_ne];exact HNz
  have hI2:In W3 (oCells W5.heap.size [.int .i64 f.1,.string (txt f.2.1),.int .i64 f.2.2] 60 :: [oCells w4.heap.size [.pointer (some ⟨w.heap.size+1+1+1+2,0,none⟩)] 57]) W6:=by
   rw [hW6]
   exact ((hI.set 0 (.int .i64 f.1)).set 1 (.string (txt f.2.1))).set 2 (.int .i64 f.2.2)
  have HI2:=Lib.hid hI2
  clear HCt hf hI hI2 hW6
  go_wp2_with fail
  have hJ:=H3.out.join (HI2.out.alloc [.int .i64 f.1,.string (txt f.2.1),.int .i64 f.2.2] 60)
  obtain ⟨b0,b1,b2,_⟩:=three_cells12 (hJ.cells (b:=W6.heap.size) (cs:=[.int .i64 f.1,.string (txt f.2.1),.int .i64 f.2.2]) (t := 60) (by simp))
  obtain ⟨m0,m1,m2,m3,m4,mf⟩:=five_cells12 (hJ.cells (b:=w.heap.size+1) (cs:=make0) (t := 30) (by simp))
  obtain ⟨p0,p1,pf⟩:=two_cells (hJ.cells (b:=w.heap.size+1+1) (cs:=[.string ⟨#[]⟩,.int .i64 0]) (t := 33) (by simp))
  have mf0:=mf 0
  have mf1:=mf 1
  have mf2:=mf 2
  have mf3:=mf 3
  have mf4:=mf 4
  have HJ:=Lib.hid hJ
  have hne1:W6.heap.size≠w.heap.size+1:=by have:=HI2.out.back.size;have:=HS3.out;omega
  have hne2:W6.heap.size≠w.heap.size+1+1:=by have:=HI2.out.back.size;have:=HS3.out;omega
  clear hJ mf
  generalize W6.alloc (.cells #[.int .i64 f.1,.string (txt f.2.1),.int .i64 f.2.2] 60)=W7 at *
  go_region
  have hJ2:=In.sets7 (((HJ.out.pull 3 rfl).pull 4 rfl)) (.slice none 0 0) (.slice none 0 0) (.slice none 0 0) (.string ⟨#[]⟩) (.slice none 0 0) (.string (txt f.2.1)) (.int .i64 f.2.2) _ rfl
  have hJ3:=hJ2.below (below_drew1 _)
  generalize World.drew _=W9 at hJ3 ⊢
  obtain ⟨z0,z1,z2,z3,z4,_⟩:=five_cells12 (hJ3.cells (b:=w.heap.size+1) (cs:=make0) (t := 30) (by simp))
  obtain ⟨y0,y1,_⟩:=two_cells (hJ3.cells (b:=w.heap.size+1+1) (cs:=[.string (txt f.2.1),.int .i64 f.2.2]) (t := 33) (by simp))
  have HB9:=Lib.hid hJ3.back
  clear hJ2 hJ3 m0 m1 m2 m3 m4 mf0 mf1 mf2 mf3 mf4 p0 p1 b0 b1 b2 HJ
  go_wp2_with fail
  refine ⟨rfl,_,?_,.inl ⟨f,HF.out,rfl,HB9.out⟩⟩
  simp [results,Tryz.results10,go_sem,z0,z1,z2,z3,z4,y0,y1]
end Go.Proofs.YtmfjolmfbdbegaaGreatDoor

namespace Go.Proofs.YtmfjolmfbdbegaaGreatDoor
open Go.RowKit Go.Shelf
attribute [local go_sem] Oper.semAt_some
set_option maxRecDepth 100000 in
set_option maxHeartbeats 4000000 in
theorem samesT (v1 v2:Value) (xs:List BS) (w:World) (h1:ReadsO w w.heap.size v1 (xs.map txt)) (h2:ReadsO w w.heap.size v2 (xs.map txt)) (hl:xs.length≤maxLen) :
  Calls Tryz.prog 11 #[v1,v2] w fun e w'=>e=.returned (.bool true)∧Below w.heap.size w w':=by
 obtain ⟨o1,c1,rfl,hx1⟩:=h1
 obtain ⟨o2,c2,rfl,hx2⟩:=h2
 rw [List.length_map] at hx1 hx2 ⊢
 obtain ⟨n,hn⟩:∃ n,n=xs.length:=⟨_,rfl⟩
 rw [← hn] at hx1 hx2 hl ⊢
 unfold maxLen at hl
 have HX:Hid (∀ k,k < n→∃ x b1 f1 b2 f2,o1=some ⟨b1,f1,none⟩∧o2=some ⟨b2,f2,none⟩∧n≤c1∧n≤c2∧∀ W,Below w.heap.size w W→W.cell? ⟨b1,f1+k,none⟩=some (.string x)∧W.cell? ⟨b2,f2+k,none⟩=some (.string x)):=fun k hk=>by
  have hg:(xs.map txt)[k]? = some (txt (xs[k]'(by omega))):=by rw [List.getElem?_map,List.getElem?_eq_getElem (by omega)];rfl
  obtain ⟨b1,f1,p1,p2,p3,p4⟩:=hx1 k _ hg
  obtain ⟨b2,f2,q1,q2,q3,q4⟩:=hx2 k _ hg
  exact ⟨_,b1,f1,b2,f2,p1,q1,p3,q3,fun W hb=>⟨(hb.cell (p:=⟨b1,f1+k,none⟩) p2).trans p4,(hb.cell (p:=⟨b2,f2+k,none⟩) q2).trans q4⟩⟩
 clear hx1 hx2 hn
 go_enter Tryz.func11,Tryz.ntmps11
 go_wp2
 go_loopw [5] (fun i wr=>∃ k:Nat,k≤n∧i=.int .i64 k∧Below w.heap.size w wr) (fun i _=>n - (intOf i).toNat)
 case atStart=>exact ⟨0,Nat.zero_le _,rfl,Below.refl _ _⟩
 case round =>
  obtain ⟨k,hk,rfl,hb⟩:=hrel
  by_cases hkn:k < n
  ·obtain ⟨x,b1,f1,b2,f2,rfl,rfl,hc1,hc2,hc⟩:=HX.out k hkn
   obtain ⟨p,q⟩:=hc wr hb
   have hb9:=Lib.hid (fun m=>hb.trans (drewN_below _ wr m))
   clear hc hb
   go_wp2
   go_quiet (fail)
   go_wp2
   go_roundw
   case rel=>exact ⟨k+1,hkn,by go_num,hb9.out _⟩
   case measure=>simp [intOf];omega
  ·have HB:=Lib.hid hb
   clear hb
   go_wp2
   go_ret
   exact ⟨rfl,HB.out⟩
theorem In.readsT {w0 w:World} {L:List Own} {v:Value} {l:List BT} (h:In w0 L w) (hm:oTexts v l∈L):ReadsO w w.heap.size v (l.map txt):=by
 obtain ⟨o,c,hv,h1,h2⟩:=h.rowShape (E := 9) (k:=1) (enc:=encS) (v:=v) (l:=l) hm (fun _=>rfl)
 refine ⟨o,c,by rw [List.length_map];exact hv,fun j x hj=>?_⟩
 rw [List.getElem?_map] at hj
 obtain ⟨y,hy,rfl⟩:=Option.map_eq_some_iff.1 hj
 obtain ⟨g,hg,hl,_,hc⟩:=h2 j y hy
 refine ⟨g,0,hg,hl,by rw [List.length_map];exact h1,?_⟩
 have:=hc 0 (by omega)
 rw [Nat.mul_one,Nat.add_zero] at this
 rw [Nat.zero_add]
 exact this
theorem reads_new (w:World) (l:List BT) (T:TypeId):ReadsO (w.alloc (.cells (l.map fun x=>Value.string (txt x)).toArray T)) (w.heap.size+1) (.slice (some ⟨w.heap.size,0,none⟩) l.length l.length) (l.map txt):=by
 refine ⟨_,l.length,by rw [List.length_map],fun j x hj=>⟨w.heap.size,0,rfl,by omega,by rw [List.length_map];exact Nat.le_refl _,?_⟩⟩
 rw [Lib.cell_of_heap (World.alloc_heap_new w _),Nat.zero_add]
 rw [List.getElem?_map] at hj
 obtain ⟨y,hy,rfl⟩:=Option.map_eq_some_iff.1 hj
 simp [hy]
theorem sames_lit {w0 w:World} {L:List Own} {v:Value} {l:List BT} (h:In w0 L w) (hm:oTexts v l∈L) (hl:l.length≤1000000) :
  Calls Tryz.prog 11 #[v,.slice (some ⟨w.heap.size,0,none⟩) l.length l.length] (w.alloc (.cells (l.map fun x=>Value.string (txt x)).toArray 9)) fun e w'=>e=.returned (.bool true)∧In w0 L w'∧Below w.heap.size w w':=by
 have hb:Below w.heap.size w (w.alloc (.cells (l.map fun x=>Value.string (txt x)).toArray 9)):=(Below.refl _ w).alloc (Nat.le_refl _) _
 have h1:=(h.below hb).readsT hm
 have h2:=reads_new w l 9
 refine (samesT _ _ l _ h1 (by rw [World.size_alloc];exact h2) (by unfold maxLen;omega)).mono ?_
 rintro e w' ⟨rfl,hb2⟩
 exact ⟨rfl,(h.below hb).below hb2,hb.trans (hb2.mono hb.size)⟩
end Go.Proofs.YtmfjolmfbdbegaaGreatDoor

namespace Go.Proofs.YtmfjolmfbdbegaaGreatDoor
open Go.RowKit Go.Shelf Go.Maps
attribute [local go_sem] Oper.semAt_some
theorem files_one (w:World) (p t:BT):FilesAt (w.alloc (.cells #[.string (txt p),.string (txt t)] 37)) (.slice (some ⟨w.heap.size,0,none⟩) 1 1) [(p,t)]:=by
 refine ⟨_,_,rfl,fun j x hj=>?_⟩
 cases j with
 | succ j=>cases hj
 | zero =>
  cases hj
  have h:=World.alloc_heap_new w (.cells #[.string (txt p),.string (txt t)] 37)
  refine ⟨w.heap.size,0,rfl,by simp,Nat.le_refl _,?_,?_⟩ <;> (rw [Lib.cell_of_heap h];rfl)
theorem run_one (w:World) (p t:BT) (hst:Std w) (hp:p.length≤4000) (ht:t.length≤1000000) :
  Calls Tryz.prog 10 #[.slice (some ⟨w.heap.size,0,none⟩) 1 1,.string (txt p)] (w.alloc (.cells #[.string (txt p),.string (txt t)] 37))
   (RunPost (w.alloc (.cells #[.string (txt p),.string (txt t)] 37)) (runE [(p,t)] p)) :=
 run_any true rule_all _ _ _ _ [(p,t)] p (hst.below ((Below.refl _ w).alloc (Nat.le_refl _) _)) (files_one w p t) (by simp) (fun x hx=>by
  rw [List.mem_singleton.1 hx]
  exact ⟨by simp only;omega,ht⟩) hp (.inl rfl)
def shownT12:BT:=[111,32,61,32,97,46,111,32,98,46,111,10,97,108,108,58,32,36,40,111,41,10,36,40,111,41,58,32,37,46,111,58,32,37,46,99,10,9,99,99,10,46,80,72,79,78,89,58,32,97,108,108,10]
def shownR0:RuleM:=⟨[[97,108,108]],false,[],[[97,46,111],[98,46,111]],[],[]⟩
def shownR1:RuleM:=⟨[[97,46,111]],false,[97],[[97,46,99]],[],[[99,99]]⟩
def shownR2:RuleM:=⟨[[98,46,111]],false,[98],[[98,46,99]],[],[[99,99]]⟩
def shownS:St:=⟨[([111],[97,46,111,32,98,46,111],false)],[shownR0,shownR1,shownR2],[[97,108,108]],[[109]],4⟩
set_option maxRecDepth 100000 in
theorem shown_run:runE [([109],shownT12)] [109]=.ok shownS:=by kernel_rfl
end Go.Proofs.YtmfjolmfbdbegaaGreatDoor

namespace Go.Proofs.YtmfjolmfbdbegaaGreatDoor
open Go.RowKit Go.Shelf Go.Maps
attribute [local go_sem] Oper.semAt_some
theorem In.three12 {w0 w:World} {L:List Own} {m:MV} {st:St} {a b c:RuleM} (h:In w0 (makeOwns m st++L) w) (hr:m.rules.map (·.1)=[a,b,c]) :
  ∃ (g cc:Nat) (ra rb rc:RV),m.rv=.slice (some ⟨g,0,none⟩) 3 cc∧3≤cc∧ra.1=a∧rb.1=b∧rc.1=c∧(∀ j,j < 6→w.cell? ⟨g,j,none⟩=(encR ra)[j]?)∧(∀ j,j < 6→w.cell? ⟨g,6+j,none⟩=(encR rb)[j]?) ∧
   In w0 ([oTexts rb.2.1 b.targets,oTexts rb.2.2.1 b.inputs,oTexts rb.2.2.2.1 b.order,oTexts rb.2.2.2.2 b.recipe,oTexts ra.2.1 a.targets,oTexts ra.2.2.1 a.inputs,oTexts ra.2.2.2.1 a.order,oTexts ra.2.2.2.2 a.recipe,ruleO rc,oEnv m.ev st.env,oRow 41 6 encR m.rv m.rules,oTexts m.pv (phonyOf st.phony),oTexts m.wv st.read]++L) w:=by
 obtain ⟨o,cc,hv,h1,h2⟩:=h.rowShape (E := 41) (k:=6) (enc:=encR) (v:=m.rv) (l:=m.rules) (by simp [makeOwns]) (fun _=>rfl)
 obtain ⟨ev,rv,pv,wv,rules⟩:=m
 match rules,hr with
 | [ra,rb,rc],hr =>
  simp only [List.map_cons,List.map_nil,List.cons.injEq,and_true] at hr
  obtain ⟨rfl,rfl,rfl⟩:=hr
  obtain ⟨g,hg,_,_,hc0⟩:=h2 0 ra rfl
  obtain ⟨g',hg',_,_,hc1⟩:=h2 1 rb rfl
  rw [hg] at hg'
  cases hg'
  refine ⟨g,cc,ra,rb,rc,by rw [hv,hg];rfl,h1,rfl,rfl,rfl,fun j hj=>?_,fun j hj=>?_,?_⟩
  ·have:=hc0 j hj
   rw [Nat.zero_mul,Nat.zero_add] at this
   exact this
  ·have:=hc1 j hj
   rw [Nat.one_mul] at this
   exact this
  ·have k1:In w0 (oAll ([ra,rb,rc].map ruleO) :: [oEnv ev st.env,oRow 41 6 encR rv [ra,rb,rc],oTexts pv (phonyOf st.phony),oTexts wv st.read]++L) w:=h.pull 2 rfl
   have k2:In w0 (ruleO ra :: ruleO rb :: ruleO rc :: oEnv ev st.env :: oRow 41 6 encR rv [ra,rb,rc] :: oTexts pv (phonyOf st.phony) :: oTexts wv st.read :: L) w:=In.unpack k1
   have k3:In w0 (oTexts ra.2.1 ra.1.targets :: oTexts ra.2.2.1 ra.1.inputs :: oTexts ra.2.2.2.1 ra.1.order :: oTexts ra.2.2.2.2 ra.1.recipe :: ruleO rb :: ruleO rc :: oEnv ev st.env :: oRow 41 6 encR rv [ra,rb,rc] :: oTexts pv (phonyOf st.phony) :: oTexts wv st.read :: L) w:=In.unpack k2
   have k4:In w0 (oTexts rb.2.1 rb.1.targets :: oTexts rb.2.2.1 rb.1.inputs :: oTexts rb.2.2.2.1 rb.1.order :: oTexts rb.2.2.2.2 rb.1.recipe :: oTexts ra.2.1 ra.1.targets :: oTexts ra.2.2.1 ra.1.inputs :: oTexts ra.2.2.2.1 ra.1.order :: oTexts ra.2.2.2.2 ra.1.recipe :: ruleO rc :: oEnv ev st.env :: oRow 41 6 encR rv [ra,rb,rc] :: oTexts pv (phonyOf st.phony) :: oTexts wv st.read :: L) w:=In.unpack (k3.pull 4 rfl)
   exact k4
theorem shown_ph:phonyOf shownS.phony=[[97,108,108]]:=by decide +kernel
theorem shown_fi:firstOf shownS.rules=[97,108,108]:=by decide +kernel
set_option maxRecDepth 100000 in
set_option maxHeartbeats 8000000 in
theorem shown_any (w:World) (hst:Std w):Calls Tryz.prog 8 #[] w fun e w'=>e=.returned (.bool true)∧Below w.heap.size w w':=by
 have hR:=run_one w [109] shownT12 hst (by decide) (by decide)
 rw [shown_run] at hR
 have hb0:Below w.heap.size w (w.alloc (.cells #[.string (txt [109]),.string (txt shownT12)] 37)):=(Below.refl _ w).alloc (Nat.le_refl _) _
 have HB0:=Lib.hid hb0
 have HR:Hid (Calls Tryz.prog 10 #[.slice (some ⟨w.heap.size,0,none⟩) 1 1,.string ⟨#[109]⟩] (w.alloc (.cells #[.string ⟨#[109]⟩,.string ⟨#[111,32,61,32,97,46,111,32,98,46,111,10,97,108,108,58,32,36,40,111,41,10,36,40,111,41,58,32,37,46,111,58,32,37,46,99,10,9,99,99,10,46,80,72,79,78,89,58,32,97,108,108,10]⟩] 37)) (RunPost (w.alloc (.cells #[.string (txt [109]),.string (txt shownT12)] 37)) (.ok shownS))):=hR
 clear hR hb0
 go_enter Tryz.func8,Tryz.ntmps8
 go_wp2_with fail
 refine HR.out.mono ?_
 rintro e w1 (⟨f,hf,_⟩ | ⟨st,m,hs,rfl,hrl,hI⟩)
 ·cases hf
 cases hs
 have hI0:In (w.alloc (.cells #[.string (txt [109]),.string (txt shownT12)] 37)) (makeOwns m shownS++[]) w1:=by rw [List.append_nil];exact hI
 obtain ⟨⟨o1,n1,c1,s1⟩,_,⟨o3,n3,c3,s3⟩,⟨o4,n4,c4,s4⟩⟩:=hI0.shapesM
 obtain ⟨g,cc,ra,rb,rc,s2,h3c,e1,e2,e3,hc0,hc1,hL⟩:=hI0.three12 hrl
 rw [shown_ph] at hL
 obtain ⟨ev,rv,pv,wv,rules⟩:=m
 simp only at s1 s2 s3 s4
 subst s1 s2 s3 s4
 obtain ⟨xa,ta,ia,oa,ca⟩:=ra
 obtain ⟨xb,tb,ib,ob,cb⟩:=rb
 simp only at e1 e2 e3
 subst e1 e2
 obtain ⟨pa,qa,za⟩:=hL.textLen (v:=ia) (l:=shownR0.inputs) (by simp)
 obtain ⟨pt,qt,zt⟩:=hL.textLen (v:=tb) (l:=shownR1.targets) (by simp)
 obtain ⟨pi,qi,zi⟩:=hL.textLen (v:=ib) (l:=shownR1.inputs) (by simp)
 obtain ⟨po,qo,zo⟩:=hL.textLen (v:=ob) (l:=shownR1.order) (by simp)
 obtain ⟨pc,qc,zc⟩:=hL.textLen (v:=cb) (l:=shownR1.recipe) (by simp)
 have h3':n3=1:=by
  obtain ⟨o,c,hv⟩:=hL.textLen (v:=.slice o3 n3 c3) (l:=[[97,108,108]]) (by simp)
  cases hv;rfl
 have h4':n4=1:=by
  obtain ⟨o,c,hv⟩:=hL.textLen (v:=.slice o4 n4 c4) (l:=shownS.read) (by simp)
  cases hv;rfl
 subst za zt zi zo zc h3' h4'
 have hL2:=(hL.alloc [.slice o1 n1 c1,.slice (some ⟨g,0,none⟩) 3 cc,.slice o3 1 c3,.string ⟨#[97,108,108]⟩,.slice o4 1 c4] 30).alloc [.string ⟨#[]⟩,.int .i64 0] 33
 have hb2:Below w1.heap.size w1 ((w1.alloc (.cells #[.slice o1 n1 c1,.slice (some ⟨g,0,none⟩) 3 cc,.slice o3 1 c3,.string ⟨#[97,108,108]⟩,.slice o4 1 c4] 30)).alloc (.cells #[.string ⟨#[]⟩,.int .i64 0] 33)):=((Below.refl _ w1).alloc (Nat.le_refl _) _).alloc (by simp) _
 have hgl:g < w1.heap.size:=by
  have:=hc0 3 (by decide)
  exact World.block_lt_of_cell? w1 ⟨g,3,none⟩ this
 have i3:=(hb2.cell (p:=⟨g,3,none⟩) hgl).trans (hc0 3 (by decide))
 have r0:=(hb2.cell (p:=⟨g,6+0,none⟩) hgl).trans (hc1 0 (by decide))
 have r1:=(hb2.cell (p:=⟨g,6+1,none⟩) hgl).trans (hc1 1 (by decide))
 have r2:=(hb2.cell (p:=⟨g,6+2,none⟩) hgl).trans (hc1 2 (by decide))
 have r3:=(hb2.cell (p:=⟨g,6+3,none⟩) hgl).trans (hc1 3 (by decide))
 have r4:=(hb2.cell (p:=⟨g,6+4,none⟩) hgl).trans (hc1 4 (by decide))
 have r5:=(hb2.cell (p:=⟨g,6+5,none⟩) hgl).trans (hc1 5 (by decide))
 obtain ⟨m0,m1,m2,m3,m4,_⟩:=five_cells12 (hL2.cells (b:=w1.heap.size) (cs:=[.slice o1 n1 c1,.slice (some ⟨g,0,none⟩) 3 cc,.slice o3 1 c3,.string ⟨#[97,108,108]⟩,.slice o4 1 c4]) (t := 30) (by simp))
 have HL2:=Lib.hid hL2
 have hgl2:=Nat.lt_of_lt_of_le hgl hb2.size
 have hml2:w1.heap.size < ((w1.alloc (.cells #[.slice o1 n1 c1,.slice (some ⟨g,0,none⟩) 3 cc,.slice o3 1 c3,.string ⟨#[97,108,108]⟩,.slice o4 1 c4] 30)).alloc (.cells #[.string ⟨#[]⟩,.int .i64 0] 33)).heap.size:=by simp;omega
 have hs2:((w1.alloc (.cells #[.slice o1 n1 c1,.slice (some ⟨g,0,none⟩) 3 cc,.slice o3 1 c3,.string ⟨#[97,108,108]⟩,.slice o4 1 c4] 30)).alloc (.cells #[.string ⟨#[]⟩,.int .i64 0] 33)).heap.size=w1.heap.size+1+1:=by simp
 clear hL hL2 hc0 hc1 hI hI0 hrl HR hb2 hgl
 have ef:makeC ⟨.slice o1 n1 c1,.slice (some ⟨g,0,none⟩) 3 cc,.slice o3 1 c3,.slice o4 1 c4,rules⟩ (firstOf shownS.rules)=[.slice o1 n1 c1,.slice (some ⟨g,0,none⟩) 3 cc,.slice o3 1 c3,.string ⟨#[97,108,108]⟩,.slice o4 1 c4]:=by rw [shown_fi];rfl
 rw [ef]
 clear ef
 generalize hW:((w1.alloc (.cells #[.slice o1 n1 c1,.slice (some ⟨g,0,none⟩) 3 cc,.slice o3 1 c3,.string ⟨#[97,108,108]⟩,.slice o4 1 c4] 30)).alloc (.cells #[.string ⟨#[]⟩,.int .i64 0] 33))=W2 at *
 have HK:Hid (∀ W,Below W2.heap.size W2 W→(W.cell? ⟨w1.heap.size,0,none⟩=some (.slice o1 n1 c1)∧W.cell? ⟨w1.heap.size,1,none⟩=some (.slice (some ⟨g,0,none⟩) 3 cc)∧W.cell? ⟨w1.heap.size,2,none⟩=some (.slice o3 1 c3)∧W.cell? ⟨w1.heap.size,3,none⟩=some (.string ⟨#[97,108,108]⟩)∧W.cell? ⟨w1.heap.size,4,none⟩=some (.slice o4 1 c4)) ∧
   (W.cell? ⟨g,3,none⟩=some (.slice pa shownR0.inputs.length qa)∧W.cell? ⟨g,6,none⟩=some (.slice pt shownR1.targets.length qt)∧W.cell? ⟨g,6+1,none⟩=some (.bool false)∧W.cell? ⟨g,6+2,none⟩=some (.string ⟨#[97]⟩)∧W.cell? ⟨g,6+3,none⟩=some (.slice pi shownR1.inputs.length qi)∧W.cell? ⟨g,6+4,none⟩=some (.slice po shownR1.order.length qo)∧W.cell? ⟨g,6+5,none⟩=some (.slice pc shownR1.recipe.length qc))):=fun W hb =>
  ⟨⟨(hb.cell (p := ⟨w1.heap.size, 0, none⟩) hml2).trans m0, (hb.cell (p := ⟨w1.heap.size, 1, none⟩) hml2).trans m1, (hb.cell (p := ⟨w1.heap.size, 2, none⟩) hml2).trans m2, (hb.cell (p := ⟨w1.heap.size, 3, none⟩) hml2).trans m3, (hb.cell (p := ⟨w1.heap.size, 4, none⟩) hml2).trans m4⟩,
   (hb.cell (p := ⟨g, 3, none⟩) hgl2).trans i3, (hb.cell (p := ⟨g, 6 + 0, none⟩) hgl2).trans r0, (hb.cell (p := ⟨g, 6 + 1, none⟩) hgl2).trans r1, (hb.cell (p := ⟨g, 6 + 2, none⟩) hgl2).trans r2, (hb.cell (p := ⟨g, 6 + 3, none⟩) hgl2).trans r3, (hb.cell (p := ⟨g, 6 + 4, none⟩) hgl2).trans r4, (hb.cell (p := ⟨g, 6 + 5, none⟩) hgl2).trans r5⟩
 have HW:=Lib.hid hW
 have HS2:=Lib.hid hs2
 have H1:=Lib.hid (sames_lit HL2.out (v:=.slice o3 1 c3) (l:=[[97,108,108]]) (by simp) (by decide))
 rw [hs2,← hW] at H1
 clear hW hs2 i3 r0 r1 r2 r3 r4 r5
 go_wp2_with fail
 refine H1.out.mono ?_
 rintro e w3 ⟨rfl,h3,hb3⟩
 have HB3:Hid (Below W2.heap.size W2 w3):=by
  have:=hb3
  rw [HW.out,← HS2.out] at this
  exact this
 have H2:=Lib.hid (sames_lit h3 (v:=.slice o4 1 c4) (l:=[[109]]) (by simp [shownS]) (by decide))
 clear m0 m1 m2 m3 m4
 obtain ⟨⟨m0,m1,m2,m3,m4⟩,i3,r0,r1,r2,r3,r4,r5⟩:=HK.out w3 HB3.out
 clear h3 hb3 H1
 go_wp2_with fail
 refine H2.out.mono ?_
 rintro e w4 ⟨rfl,h4,hb4⟩
 clear m0 m1 m2 m3 m4 i3 r0 r1 r2 r3 r4 r5
 have HB4:Hid (Below W2.heap.size W2 w4):=HB3.out.trans (hb4.mono HB3.out.size)
 obtain ⟨⟨m0,m1,m2,m3,m4⟩,i3,r0,r1,r2,r3,r4,r5⟩:=HK.out w4 HB4.out
 have h4b:=h4.alloc [.slice pt shownR1.targets.length qt,.bool false,.string ⟨#[97]⟩,.slice pi shownR1.inputs.length qi,.slice po shownR1.order.length qo,.slice pc shownR1.recipe.length qc] 41
 have H3:=Lib.hid (sames_lit h4b (v:=.slice pa shownR0.inputs.length qa) (l:=shownR0.inputs) (by simp) (by decide))
 have hs4:(w4.alloc (.cells #[.slice pt shownR1.targets.length qt,.bool false,.string ⟨#[97]⟩,.slice pi shownR1.inputs.length qi,.slice po shownR1.order.length qo,.slice pc shownR1.recipe.length qc] 41)).heap.size=w4.heap.size+1:=by simp
 rw [hs4] at H3
 have HB4b:Hid (Below W2.heap.size W2 (w4.alloc (.cells #[.slice pt shownR1.targets.length qt,.bool false,.string ⟨#[97]⟩,.slice pi shownR1.inputs.length qi,.slice po shownR1.order.length qo,.slice pc shownR1.recipe.length qc] 41))):=HB4.out.alloc HB4.out.size _
 obtain ⟨⟨_,n1',_,_,_⟩,i3',_,_,_,_,_,_⟩:=HK.out _ HB4b.out
 obtain ⟨b0,_,b2,b3,b4,b5,_⟩:=six_cells (h4b.cells (b:=w4.heap.size) (cs:=[.slice pt shownR1.targets.length qt,.bool false,.string ⟨#[97]⟩,.slice pi shownR1.inputs.length qi,.slice po shownR1.order.length qo,.slice pc shownR1.recipe.length qc]) (t := 41) (by simp))
 have HBx:Hid (∀ W,Below (w4.heap.size+1) (w4.alloc (.cells #[.slice pt shownR1.targets.length qt,.bool false,.string ⟨#[97]⟩,.slice pi shownR1.inputs.length qi,.slice po shownR1.order.length qo,.slice pc shownR1.recipe.length qc] 41)) W→W.cell? ⟨w4.heap.size,0,none⟩=some (.slice pt shownR1.targets.length qt)∧W.cell? ⟨w4.heap.size,2,none⟩=some (.string ⟨#[97]⟩)∧W.cell? ⟨w4.heap.size,3,none⟩=some (.slice pi shownR1.inputs.length qi)∧W.cell? ⟨w4.heap.size,5,none⟩=some (.slice pc shownR1.recipe.length qc)):=fun W hb =>
  ⟨(hb.cell (p:=⟨w4.heap.size,0,none⟩) (by simp)).trans b0,(hb.cell (p:=⟨w4.heap.size,2,none⟩) (by simp)).trans b2,(hb.cell (p:=⟨w4.heap.size,3,none⟩) (by simp)).trans b3,(hb.cell (p:=⟨w4.heap.size,5,none⟩) (by simp)).trans b5⟩
 clear h4 hb4 H2 h4b hs4 HB3 b0 b2 b3 b4 b5
 go_wp2_with fail
 refine H3.out.mono ?_
 rintro e w5 ⟨rfl,h5,hb5⟩
 obtain ⟨b0,b2,b3,b5⟩:=HBx.out w5 hb5
 have H4:=Lib.hid (sames_lit h5 (v:=.slice pt shownR1.targets.length qt) (l:=shownR1.targets) (by simp) (by decide))
 have HB5:=Lib.hid hb5
 clear h5 H3 m0 m1 m2 m3 m4 i3 r0 r1 r2 r3 r4 r5 n1' i3' hb5
 go_wp2_with fail
 refine H4.out.mono ?_
 rintro e w6 ⟨rfl,h6,hb6⟩
 have HB6:Hid (Below (w4.heap.size+1) (w4.alloc (.cells #[.slice pt shownR1.targets.length qt,.bool false,.string ⟨#[97]⟩,.slice pi shownR1.inputs.length qi,.slice po shownR1.order.length qo,.slice pc shownR1.recipe.length qc] 41)) w6):=HB5.out.trans (hb6.mono (by have:=HB5.out.size;simp at this;omega))
 clear b0 b2 b3 b5
 obtain ⟨b0,b2,b3,b5⟩:=HBx.out w6 HB6.out
 have H5:=Lib.hid (sames_lit h6 (v:=.slice pi shownR1.inputs.length qi) (l:=shownR1.inputs) (by simp) (by decide))
 clear h6 H4 HB5 hb6
 go_wp2_with fail
 refine H5.out.mono ?_
 rintro e w7 ⟨rfl,h7,hb7⟩
 have HB7:Hid (Below (w4.heap.size+1) (w4.alloc (.cells #[.slice pt shownR1.targets.length qt,.bool false,.string ⟨#[97]⟩,.slice pi shownR1.inputs.length qi,.slice po shownR1.order.length qo,.slice pc shownR1.recipe.length qc] 41)) w7):=HB6.out.trans (hb7.mono (by have:=HB6.out.size;simp at this;omega))
 clear b0 b2 b3 b5
 obtain ⟨b0,b2,b3,b5⟩:=HBx.out w7 HB7.out
 have H6:=Lib.hid (sames_lit h7 (v:=.slice pc shownR1.recipe.length qc) (l:=shownR1.recipe) (by simp) (by decide))
 clear h7 H5 HB6 hb7
 go_wp2_with fail
 refine H6.out.mono ?_
 rintro e w8 ⟨rfl,h8,hb8⟩
 have HB8:Hid (Below w.heap.size w w8):=HB0.out.trans (h8.back.mono HB0.out.size)
 clear h8 hb8 H6
 go_wp2_with fail
 go_ret
 exact ⟨rfl,HB8.out⟩
end Go.Proofs.YtmfjolmfbdbegaaGreatDoor
