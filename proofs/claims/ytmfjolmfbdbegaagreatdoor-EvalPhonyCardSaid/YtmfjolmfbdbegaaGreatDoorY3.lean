/-
  What add answers: a rule more, or names more that are phony, or what is wrong. No condition but sizes.
  What slices.ContainsFunc answers with rule's own predicate; once and filled over what is kept. No condition but sizes.
  What byPattern answers: a rule of each target, or what is wrong. No condition but sizes.
  What byPattern answers. No condition but sizes.
-/
import Derived.Deep.RegionHeld2
import Derived.Test.YtmfjolmfbdbegaaGreatDoorY2
import Derived.Test.YtmfjolmfbdbegaaGreatDoorQP
namespace Go.Proofs.YtmfjolmfbdbegaaGreatDoor
open Go.RowKit Go.Shelf Go.Maps
attribute [local go_sem] Oper.semAt_some
theorem six_cells {w:World} {b:Nat} {a0 a1 a2 a3 a4 a5:Value} {T:TypeId} (h:w.heap[b]? = some (.cells #[a0,a1,a2,a3,a4,a5] T (0,0))) :
  w.cell? ⟨b,0,none⟩=some a0∧w.cell? ⟨b,1,none⟩=some a1∧w.cell? ⟨b,2,none⟩=some a2∧w.cell? ⟨b,3,none⟩=some a3∧w.cell? ⟨b,4,none⟩=some a4∧w.cell? ⟨b,5,none⟩=some a5∧∀ j,w.frozen? ⟨b,j,none⟩=false:=by
 refine ⟨?_,?_,?_,?_,?_,?_,Lib.frozen_of_heap h⟩ <;> (rw [Lib.cell_of_heap h];rfl)
def lists3 (x:RuleM):List (List BT):=[x.targets,x.inputs,x.order]
def GoodTo (x:RuleM) (i:Nat):Prop:=(((lists3 x).take i).all fun l=>l.all (goodW x.isOpen))=true
theorem good_next {x:RuleM} {i:Nat} {l:List BT} (h:GoodTo x i) (hl:(lists3 x)[i]? = some l) (hg:l.all (goodW x.isOpen)=true):GoodTo x (i+1):=by
 obtain ⟨h1,h2⟩:=List.getElem?_eq_some_iff.1 hl
 unfold GoodTo at h ⊢
 rw [List.take_succ_eq_append_getElem h1,List.all_append,h,h2]
 simpa using hg
theorem good_all {x:RuleM} (h:GoodTo x 3):x.all.all (goodW x.isOpen)=true:=by
 unfold GoodTo lists3 at h
 simp only [List.take_succ_cons,List.take_zero,List.all_cons,List.all_nil,Bool.and_true] at h
 unfold RuleM.all
 rw [List.all_append,List.all_append]
 exact h
theorem good_bad {x:RuleM} {i j:Nat} {l:List BT} {y:BT} (hl:(lists3 x)[i]? = some l) (hj:l[j]? = some y) (hg:goodW x.isOpen y=false):x.all.all (goodW x.isOpen)=false:=by
 have hm:y∈x.all:=by
  have h1:=List.mem_of_getElem? hl
  have h2:=List.mem_of_getElem? hj
  unfold lists3 at h1
  unfold RuleM.all
  simp only [List.mem_cons,List.mem_nil_iff,or_false] at h1
  rcases h1 with rfl | rfl | rfl
  ·exact List.mem_append_left _ h2
  ·exact List.mem_append_right _ (List.mem_append_left _ h2)
  ·exact List.mem_append_right _ (List.mem_append_right _ h2)
 rw [List.all_eq_false]
 exact ⟨y,hm,by rw [hg];simp⟩
theorem all_next {l:List BT} {p:BT→Bool} {j:Nat} {y:BT} (h:(l.take j).all p=true) (hj:l[j]? = some y) (hy:p y=true):(l.take (j+1)).all p=true:=by
 obtain ⟨h1,h2⟩:=List.getElem?_eq_some_iff.1 hj
 rw [List.take_succ_eq_append_getElem h1,List.all_append,h,h2]
 simp [hy]
abbrev texts3 (x:RuleM) (tv iv ov:Value) (L:List Own):List Own:=oTexts tv x.targets :: oTexts iv x.inputs :: oTexts ov x.order :: L
structure AddAt (w0:World) (c:Ctx) (L:List Own) (kn:List KV) (st:St) (x:RuleM) (tv iv ov rv:Value) (p:BT) (no:Int) (xb:Nat) (W:World):Prop where
 rs:RS w0 c (oCells xb [tv,.bool x.isOpen,.string (txt x.stem),iv,ov,rv] 41 :: texts3 x tv iv ov L) kn st W
 ab:W.heap[xb+1]? = some (.cells #[.string (txt p),.int .i64 no] 33 (0,0))
 bb:W.heap[xb+2]? = some (.cells #[tv,iv,ov] 28 (0,0))
 rcp:RecIn W rv x.recipe
section
variable {w0 w:World} {c:Ctx} {L:List Own} {kn:List KV} {st:St} {x:RuleM} {tv iv ov rv:Value} {p:BT} {no:Int} {xb:Nat} {W W':World}
theorem AddAt.below (h:AddAt w0 c L kn st x tv iv ov rv p no xb W) (hb:Below W.heap.size W W'):AddAt w0 c L kn st x tv iv ov rv p no xb W' :=
 ⟨h.rs.below hb,(hb.block _ (Array.getElem?_eq_some_iff.1 h.ab).1).trans h.ab,(hb.block _ (Array.getElem?_eq_some_iff.1 h.bb).1).trans h.bb,h.rcp.below hb⟩
theorem AddAt.start (h:RS w0 c (texts3 x tv iv ov L) kn st w) (hr:RecIn w rv x.recipe) :
  AddAt w0 c L kn st x tv iv ov rv p no w.heap.size (((w.alloc (.cells #[tv,.bool x.isOpen,.string (txt x.stem),iv,ov,rv] 41)).alloc (.cells #[.string (txt p),.int .i64 no] 33)).alloc (.cells #[tv,iv,ov] 28)):=by
 have b1:Below w.heap.size w (w.alloc (.cells #[tv,.bool x.isOpen,.string (txt x.stem),iv,ov,rv] 41)):=(Below.refl _ w).alloc (Nat.le_refl _) _
 have b2:Below (w.alloc (.cells #[tv,.bool x.isOpen,.string (txt x.stem),iv,ov,rv] 41)).heap.size (w.alloc (.cells #[tv,.bool x.isOpen,.string (txt x.stem),iv,ov,rv] 41)) ((w.alloc (.cells #[tv,.bool x.isOpen,.string (txt x.stem),iv,ov,rv] 41)).alloc (.cells #[.string (txt p),.int .i64 no] 33)):=(Below.refl _ _).alloc (Nat.le_refl _) _
 have b3:Below ((w.alloc (.cells #[tv,.bool x.isOpen,.string (txt x.stem),iv,ov,rv] 41)).alloc (.cells #[.string (txt p),.int .i64 no] 33)).heap.size ((w.alloc (.cells #[tv,.bool x.isOpen,.string (txt x.stem),iv,ov,rv] 41)).alloc (.cells #[.string (txt p),.int .i64 no] 33)) (((w.alloc (.cells #[tv,.bool x.isOpen,.string (txt x.stem),iv,ov,rv] 41)).alloc (.cells #[.string (txt p),.int .i64 no] 33)).alloc (.cells #[tv,iv,ov] 28)):=(Below.refl _ _).alloc (Nat.le_refl _) _
 have k1:=(h.more ((In.nil (Below.refl _ w)).alloc [tv,.bool x.isOpen,.string (txt x.stem),iv,ov,rv] 41)).below b2
 have a1:=World.alloc_heap_new (w.alloc (.cells #[tv,.bool x.isOpen,.string (txt x.stem),iv,ov,rv] 41)) (.cells #[.string (txt p),.int .i64 no] 33)
 have a2:=World.alloc_heap_new ((w.alloc (.cells #[tv,.bool x.isOpen,.string (txt x.stem),iv,ov,rv] 41)).alloc (.cells #[.string (txt p),.int .i64 no] 33)) (.cells #[tv,iv,ov] 28)
 rw [World.size_alloc] at a1
 rw [World.size_alloc,World.size_alloc] at a2
 refine ⟨k1.below b3,(b3.block _ (by simp)).trans a1,a2,((hr.below b1).below b2).below b3⟩
theorem AddAt.xs (h:AddAt w0 c L kn st x tv iv ov rv p no xb W):W.heap[xb]? = some (.cells #[tv,.bool x.isOpen,.string (txt x.stem),iv,ov,rv] 41 (0,0)):=by
 obtain ⟨s,h1,_⟩:=h.rs
 exact h1.cells (cs:=[tv,.bool x.isOpen,.string (txt x.stem),iv,ov,rv]) (List.mem_append_right _ List.mem_cons_self)
theorem AddAt.list (h:AddAt w0 c L kn st x tv iv ov rv p no xb W) {i:Nat} (hi:i < 3):∃ l lo lc,(lists3 x)[i]? = some l∧∀ W',AddAt w0 c L kn st x tv iv ov rv p no xb W' →
  W'.cell? ⟨xb+1+1,i,none⟩=some (.slice lo l.length lc)∧∀ (j:Nat) y,l[j]? = some y→∃ g,lo=some ⟨g,0,none⟩∧l.length≤lc∧W'.cell? ⟨g,j,none⟩=some (.string (txt y)):=by
 have key:∀ (v:Value) (l:List BT),oTexts v l∈texts3 x tv iv ov L→∃ lo lc,v=.slice lo l.length lc∧∀ W',AddAt w0 c L kn st x tv iv ov rv p no xb W'→∀ (j:Nat) y,l[j]? = some y→∃ g,lo=some ⟨g,0,none⟩∧l.length≤lc∧W'.cell? ⟨g,j,none⟩=some (.string (txt y)):=fun v l hm=>by
  obtain ⟨s,h1,_⟩:=h.rs
  obtain ⟨lo,lc,rfl⟩:=h1.textLen (List.mem_append_right _ (List.mem_cons_of_mem _ hm))
  refine ⟨lo,lc,rfl,fun W' h' j y hj=>?_⟩
  obtain ⟨s',h2,_⟩:=h'.rs
  exact h2.textAt (List.mem_append_right _ (List.mem_cons_of_mem _ hm)) hj
 have hb:∀ W',AddAt w0 c L kn st x tv iv ov rv p no xb W'→W'.cell? ⟨xb+2,0,none⟩=some tv∧W'.cell? ⟨xb+2,1,none⟩=some iv∧W'.cell? ⟨xb+2,2,none⟩=some ov:=fun W' h'=>by
  refine ⟨?_,?_,?_⟩ <;> (rw [Lib.cell_of_heap h'.bb];rfl)
 match i,hi with
 | 0,_ =>
  obtain ⟨lo,lc,hv,hx⟩:=key tv x.targets (by simp)
  exact ⟨x.targets,lo,lc,rfl,fun W' h'=>⟨by rw [(hb W' h').1,hv],hx W' h'⟩⟩
 | 1,_ =>
  obtain ⟨lo,lc,hv,hx⟩:=key iv x.inputs (by simp)
  exact ⟨x.inputs,lo,lc,rfl,fun W' h'=>⟨by rw [(hb W' h').2.1,hv],hx W' h'⟩⟩
 | 2,_ =>
  obtain ⟨lo,lc,hv,hx⟩:=key ov x.order (by simp)
  exact ⟨x.order,lo,lc,rfl,fun W' h'=>⟨by rw [(hb W' h').2.2,hv],hx W' h'⟩⟩
theorem AddAt.reads (h:AddAt w0 c L kn st x tv iv ov rv p no xb W):ReadsO W W.heap.size tv (x.targets.map txt):=by
 obtain ⟨s,h1,_⟩:=h.rs
 obtain ⟨o,cc,hv,h2,h3⟩:=h1.rowShape (E := 9) (k:=1) (enc:=encS) (v:=tv) (l:=x.targets) (List.mem_append_right _ (by simp)) (fun _=>rfl)
 refine ⟨o,cc,by rw [List.length_map];exact hv,fun j y hj=>?_⟩
 rw [List.getElem?_map] at hj
 obtain ⟨z,hz,rfl⟩:=Option.map_eq_some_iff.1 hj
 obtain ⟨g,hg,hl,_,hc⟩:=h3 j z hz
 have:=hc 0 (by omega)
 rw [Nat.mul_one,Nat.add_zero] at this
 exact ⟨g,0,hg,hl,by rw [List.length_map];exact h2,by rw [Nat.zero_add];exact this⟩
end
set_option maxRecDepth 100000 in
set_option maxHeartbeats 16000000 in
theorem radd_any (w0:World) (c:Ctx) (L:List Own) (kn:List KV) (st:St) (x:RuleM) (ta io oo ro:Option Addr) (tn tc im ic on oc rn rc:Nat) (p:BT) (no:Int) (w:World) (h:RS w0 c (texts3 x (.slice ta tn tc) (.slice io im ic) (.slice oo on oc) L) kn st w) (hr:RecIn w (.slice ro rn rc) x.recipe)
  (hsz:∀ y∈x.all,y.length≤1000000) (hrl:x.recipe.length≤1000000) (htl:x.targets.length≤1000000) (hil:x.inputs.length≤1000000) (hol:x.order.length≤1000000) (hsr:st.rules.length≤1000000) (hsp:st.phony.length≤100000000) :
  Calls Tryz.prog 83 #[.pointer (some ⟨c.rb,0,none⟩),aggR x (.slice ta tn tc) (.slice io im ic) (.slice oo on oc) (.slice ro rn rc),atV p no] w (StPost w0 c L kn (addE p no x st)):=by
 have hA:=AddAt.start (p:=p) (no:=no) h hr
 obtain ⟨xb,hxb⟩:∃ xb,xb=w.heap.size:=⟨_,rfl⟩
 rw [← hxb] at hA
 have HA0:=Lib.hid hA
 obtain ⟨x0,x1,x2,x3,x4,x5,_⟩:=six_cells (World.alloc_heap_new w (.cells #[.slice ta tn tc,.bool x.isOpen,.string (txt x.stem),.slice io im ic,.slice oo on oc,.slice ro rn rc] 41))
 have HBad:Hid (∀ (i j:Nat) (l:List BT) (y:BT),(lists3 x)[i]? = some l→l[j]? = some y→goodW x.isOpen y=false→addE p no x st=.error (2,p,no)):=fun i j l y h1 h2 h3=>by
  unfold addE;rw [if_pos (good_bad h1 h2 h3)]
 have HSz:Hid (∀ (i j:Nat) (l:List BT) (y:BT),(lists3 x)[i]? = some l→l[j]? = some y→y.length≤1000000):=fun i j l y h1 h2=>hsz y (by
  have h1:=List.mem_of_getElem? h1
  have h2:=List.mem_of_getElem? h2
  unfold lists3 at h1
  unfold RuleM.all
  simp only [List.mem_cons,List.mem_nil_iff,or_false] at h1
  rcases h1 with rfl | rfl | rfl
  ·exact List.mem_append_left _ h2
  ·exact List.mem_append_right _ (List.mem_append_left _ h2)
  ·exact List.mem_append_right _ (List.mem_append_right _ h2))
 have HLn:Hid (∀ (i:Nat) (l:List BT),(lists3 x)[i]? = some l→l.length≤1000000):=fun i l h1=>by
  have h1:=List.mem_of_getElem? h1
  unfold lists3 at h1
  simp only [List.mem_cons,List.mem_nil_iff,or_false] at h1
  rcases h1 with rfl | rfl | rfl <;> assumption
 have HVp:Hid (x.all.all (goodW x.isOpen)=true→x.targets=[phonyW]→addE p no x st=.ok { st with phony:=st.phony++x.inputs }):=fun h1 h2=>by
  unfold addE;rw [if_neg (by rw [h1];simp),if_pos h2]
 have HVr:Hid (x.all.all (goodW x.isOpen)=true→x.targets≠[phonyW]→addE p no x st=.ok { st with rules:=st.rules++[x] }):=fun h1 h2=>by
  unfold addE;rw [if_neg (by rw [h1];simp),if_neg h2]
 have HTl:=Lib.hid htl
 clear h hr hsz hA htl hol
 go_enter Tryz.func83,Tryz.ntmps83
 go_wp2_with fail
 rw [← hxb]
 clear hxb x0 x1 x2 x3 x4 x5
 go_loopw [18] (fun zv wr=>∃ i:Nat,i≤3∧zv=.int .i64 i∧Hid (GoodTo x i)∧Hid (AddAt w0 c L kn st x (.slice ta tn tc) (.slice io im ic) (.slice oo on oc) (.slice ro rn rc) p no xb wr)) (fun zv _=>3 - (intOf zv).toNat)
 case atStart=>exact ⟨0,by omega,rfl,rfl,HA0.out⟩
 case round =>
  obtain ⟨i,hi,rfl,HG,HA⟩:=hrel
  by_cases hlt:i < 3
  ·obtain ⟨l,lo,lc,hl,hlx⟩:=HA.out.list hlt
   have HLx:=Lib.hid hlx
   have HL:=Lib.hid hl
   obtain ⟨hcell,_⟩:=hlx wr HA.out
   obtain ⟨m,hm⟩:∃ m,m=l.length:=⟨_,rfl⟩
   rw [← hm] at hcell HLx
   have HM:=Lib.hid hm
   have hml:m≤1000000:=by rw [hm];exact HLn.out i l hl
   have hii:(i:Int) < 3:=by omega
   clear hl hlx hm
   go_wp2_with fail
   go_loopw [24] (fun jv wq=>∃ j:Nat,j≤m∧jv=.int .i64 j∧Hid ((l.take j).all (goodW x.isOpen)=true)∧Hid (AddAt w0 c L kn st x (.slice ta tn tc) (.slice io im ic) (.slice oo on oc) (.slice ro rn rc) p no xb wq)) (fun jv _=>m - (intOf jv).toNat)
   case atStart=>exact ⟨0,Nat.zero_le _,rfl,rfl,HA⟩
   case round =>
    obtain ⟨j,hj,rfl,HGj,HAj⟩:=hrel
    by_cases hjt:j < m
    ·obtain ⟨y,hy⟩:∃ y,l[j]? = some y:=⟨_,List.getElem?_eq_getElem (by rw [← HM.out];exact hjt)⟩
     obtain ⟨g,rfl,hmc,hyc⟩:=(HLx.out wr HAj.out).2 j y hy
     have hyl:=HSz.out i j l y HL.out hy
     have hji:(j:Int) < (m:Int):=by omega
     have HP:=Lib.hid (path_any (txt y) (by rw [txt_size];unfold maxLen;omega) wr)
     rw [txt_data] at HP
     have hop:=open_any (txt y)
     rw [txt_data] at hop
     have HO:=Lib.hid hop
     clear hyl hop
     go_wp2_with fail
     refine HP.out.mono ?_
     rintro e w2 ⟨rfl,hb2⟩
     have HA2:=Lib.hid (HAj.out.below hb2)
     obtain ⟨x0,x1,x2,x3,x4,x5,_⟩:=six_cells HA2.out.xs
     obtain ⟨p0,p1,_⟩:=two_cells HA2.out.ab
     clear hb2 HP HAj hyc
     by_cases hpb:pathB y=true
     ·rw [hpb]
      have hg:goodW x.isOpen y=true:=by unfold goodW;rw [hpb];rfl
      clear hpb
      have HG2:=Lib.hid (all_next HGj.out hy hg)
      clear HGj hy
      go_wp2_with fail
      go_roundw
      case rel=>exact ⟨j+1,by omega,by go_num,HG2,HA2⟩
      case measure=>simp [intOf];omega
     ·have hpb':pathB y=false:=by simpa using hpb
      rw [hpb']
      cases hxo:x.isOpen with
      | false =>
       rw [hxo] at x1
       have hg:goodW x.isOpen y=false:=by unfold goodW;rw [hpb',hxo];rfl
       clear hpb hpb' hxo
       have HE:=Lib.hid (HBad.out i j l y HL.out hy hg)
       clear HGj hy
       go_wp2_with fail
       refine (fail_any 2 p no _).mono ?_
       rintro e w3 ⟨rfl,hb3⟩
       have HR3:Hid (In w0 L w3):=((HA2.out.below hb3).rs.rest).drop (l1:=[_,_,_,_])
       clear hb3
       unfold panE
       go_wp2_with fail
       exact ⟨rfl,.inl ⟨_,HE.out,rfl,HR3.out⟩⟩
      | true =>
       rw [hxo] at x1
       cases hob:openB y with
       | true =>
        rw [hob] at HO
        have hg:goodW x.isOpen y=true:=by unfold goodW;rw [hpb',hxo,hob];rfl
        clear hpb hpb' hxo hob
        go_wp2_with fail
        refine (HO.out _).mono ?_
        rintro e _ ⟨rfl,rfl⟩
        have HG2:=Lib.hid (all_next HGj.out hy hg)
        clear HGj hy
        go_wp2_with fail
        go_roundw
        case rel=>exact ⟨j+1,by omega,by go_num,HG2,HA2⟩
        case measure=>simp [intOf];omega
       | false =>
        rw [hob] at HO
        have hg:goodW x.isOpen y=false:=by unfold goodW;rw [hpb',hxo,hob];rfl
        clear hpb hpb' hxo hob
        go_wp2_with fail
        refine (HO.out _).mono ?_
        rintro e _ ⟨rfl,rfl⟩
        have HE:=Lib.hid (HBad.out i j l y HL.out hy hg)
        clear HGj hy
        go_wp2_with fail
        refine (fail_any 2 p no _).mono ?_
        rintro e w3 ⟨rfl,hb3⟩
        have HR3:Hid (In w0 L w3):=((HA2.out.below hb3).rs.rest).drop (l1:=[_,_,_,_])
        clear hb3
        unfold panE
        go_wp2_with fail
        exact ⟨rfl,.inl ⟨_,HE.out,rfl,HR3.out⟩⟩
    ·have hjm:j=m:=by omega
     have HG3:=Lib.hid (good_next HG.out HL.out (by
      have:=HGj.out
      rwa [List.take_of_length_le (by rw [← HM.out];omega)] at this))
     clear HG HGj
     go_wp2_with fail
     go_roundw
     case rel=>exact ⟨i+1,by omega,by go_num,HG3,HAj⟩
     case measure=>simp [intOf];omega
  ·have hi3:i=3:=by omega
   subst hi3
   have hall:=good_all HG.out
   have hb4:Below wr.heap.size wr (wr.alloc (.cells #[.string ⟨#[46,80,72,79,78,89]⟩] 9)):=(Below.refl _ wr).alloc (Nat.le_refl _) _
   have HA4:=Lib.hid (HA.out.below hb4)
   have HEq:=Lib.hid (equal12_any (.slice ta tn tc) (.slice (some ⟨wr.heap.size,0,none⟩) 1 1) x.targets [phonyW] _ HA4.out.reads ⟨some ⟨wr.heap.size,0,none⟩,1,rfl,fun j y hj=>by
    cases j with
    | zero=>cases hj;exact ⟨wr.heap.size,0,rfl,by simp,Nat.le_refl _,by rw [Lib.cell_of_heap (World.alloc_heap_new wr _)];rfl⟩
    | succ j=>simp at hj⟩ HTl.out)
   have HVp1:=Lib.hid (HVp.out hall)
   have HVr1:=Lib.hid (HVr.out hall)
   obtain ⟨x0,x1,x2,x3,x4,x5,xf⟩:=six_cells HA.out.xs
   clear hb4 hall HVp HVr HG HBad HSz HLn HA0
   go_wp2_with fail
   refine HEq.out.mono ?_
   rintro e w5 ⟨rfl,hb5⟩
   have HA5:=Lib.hid (HA4.out.below hb5)
   clear hb5 HEq HA4 HA x0 x1 x2 x3 x4 x5 xf
   obtain ⟨x0,x1,x2,x3,x4,x5,xf⟩:=six_cells HA5.out.xs
   obtain ⟨s,k1,k2,k3⟩:=HA5.out.rs
   have hsl:s.rules.length=st.rules.length:=by rw [← k2.rules,List.length_map]
   by_cases htg:x.targets=[phonyW]
   ·rw [decide_eq_true htg]
    have HE:=Lib.hid (HVp1.out htg)
    obtain ⟨o9,n9,c9,w9,hrun,q6,qf,hI⟩:=(k1.below (below_drew1 w5)).pushPhony (iv:=.slice io im ic) (is:=x.inputs) (by simp) (by omega) 28
    obtain ⟨_,_,_,_,_,_,d6,_,_,df⟩:=nine_cells k1.rcells
    have HR:Hid (RS w0 c L kn { st with phony:=st.phony++x.inputs } (w9.setCell ⟨c.rb,6,none⟩ (.slice o9 n9 c9))):=RS.less (l:=[_,_,_,_]) ⟨_,hI,⟨k2.rules,k2.known,k2.nn,k2.few⟩,k3⟩
    have df6:=df 6
    clear hI k1 k2 k3 htg HVp1 HVr1 df hsl
    go_wp2_with fail
    go_region_law (first | (refine step_append_runQ rfl _ _ 28 rfl _ _ _ w9 rfl rfl hrun ?_))
    all_goals (
     go_wp2_with fail
     go_end0
     exact .inr ⟨_,HE.out,rfl,HR.out⟩)
   ·rw [decide_eq_false htg]
    have HE:=Lib.hid (HVr1.out htg)
    have HCl:=Lib.hid (clone12_any (.slice ro rn rc) x.recipe w5 HA5.out.rcp hrl)
    clear k1 k2 k3 htg HVp1 HVr1 hsl
    go_wp2_with fail
    refine HCl.out.mono ?_
    rintro e w6 ⟨o6,c6,rfl,hI6⟩
    have hr6:=HA5.out.rs.more hI6
    obtain ⟨s',k1,k2,k3⟩:=hr6
    have k4:=k1.pull 10 rfl
    have xh:=k4.cells (b:=xb) (cs:=[.slice ta tn tc,.bool x.isOpen,.string (txt x.stem),.slice io im ic,.slice oo on oc,.slice ro rn rc]) (t := 41) List.mem_cons_self
    obtain ⟨_,_,_,_,_,y5,yf⟩:=six_cells xh
    have yf5:=yf 5
    have k5:=In.set k4 5 (.slice o6 x.recipe.length c6)
    have xh2:=k5.cells (b:=xb) (cs:=[.slice ta tn tc,.bool x.isOpen,.string (txt x.stem),.slice io im ic,.slice oo on oc,.slice o6 x.recipe.length c6]) (t := 41) List.mem_cons_self
    have k6:In w0 (owns c s' st++(oTexts (.slice ta tn tc) x.targets :: oTexts (.slice io im ic) x.inputs :: oTexts (.slice oo on oc) x.order :: oTexts (.slice o6 x.recipe.length c6) x.recipe :: L)) (w6.setCell ⟨xb,5,none⟩ (.slice o6 x.recipe.length c6)):=(k5.tail.pull 9 rfl).push 12 (Nat.le_add_left 12 _)
    have hsl:s'.rules.length=st.rules.length:=by rw [← k2.rules,List.length_map]
    have HS:=Lib.hid (And.intro k2 k3)
    have HK6:=Lib.hid k6
    have HX2:=Lib.hid xh2
    clear k1 k2 k3 k4 k5 k6 xh xh2 hI6 HCl x0 x1 x2 x3 x4 x5 xf yf
    go_upto_region 14 with fail
    generalize w6.setCell ⟨xb,5,none⟩ (.slice o6 x.recipe.length c6)=w7 at HX2 HK6 ⊢
    obtain ⟨x0,x1,x2,x3,x4,x5,xf⟩:=six_cells HX2.out
    obtain ⟨_,_,_,_,_,d5,_,_,_,df⟩:=nine_cells HK6.out.rcells
    obtain ⟨o9,c9,w9,hrun,q5,qf,hI⟩:=(HK6.out.below (below_drew1 w7)).pushRule (by simp [Value.oneCell']) (by omega) 27
    have HR:Hid (RS w0 c L kn { st with rules:=st.rules++[x] } (w9.setCell ⟨c.rb,5,none⟩ (.slice o9 (s'.rules.length+1) c9))):=⟨_,hI,⟨by rw [List.map_append,HS.out.1.rules];rfl,HS.out.1.known,HS.out.1.nn,HS.out.1.few⟩,HS.out.2⟩
    generalize s'.rules.length+1=nr at hrun HR
    obtain ⟨rv5,hrv5⟩:∃ rv5,rv5=s'.rv:=⟨_,rfl⟩
    rw [← hrv5] at d5 q5 hrun
    have d5a:(w7.alloc (.cells #[.slice ta tn tc,.bool x.isOpen,.string (txt x.stem),.slice io im ic,.slice oo on oc,.slice o6 x.recipe.length c6] 41)).cell? ⟨c.rb,5,none⟩=some rv5:=(((Below.refl _ w7).alloc (Nat.le_refl _) _).cell (p:=⟨c.rb,5,none⟩) (Array.getElem?_eq_some_iff.1 HK6.out.rcells).1).trans d5
    clear df hI hrv5 hsl y5 yf5 HX2 HK6
    go_region_law (first | (refine step_append_runQ rfl _ _ 27 rfl _ _ _ w9 rfl rfl hrun ?_))
    all_goals (
     go_wp2_with fail
     go_end0
     exact .inr ⟨_,HE.out,rfl,HR.out⟩)
end Go.Proofs.YtmfjolmfbdbegaaGreatDoor

namespace Go.Proofs.YtmfjolmfbdbegaaGreatDoor
open Go.RowKit Go.Shelf Go.Maps
attribute [local go_sem] Oper.semAt_some
theorem still12 {P:Program} {f:FuncId} {args:Array Value} {w:World} {m:Nat} {v:Value} (h:Calls P f args (w.drewN m) fun e w'=>e=.returned v∧w'=w.drewN m) :
  Calls P f args (w.drewN m) fun e w'=>e=.returned v∧∃ j,w'=w.drewN j:=h.mono fun _ _ h=>⟨h.1,m,h.2⟩
def otherB (b:Bool) (x:BT):Bool:=openB x != b
set_option maxHeartbeats 1000000 in
theorem other_any (b:Bool) (x:BT) (bx:Nat) (w:World) (h:w.cell? ⟨bx,0,none⟩=some (.bool b)) :
  Calls Tryz.prog 81 #[.string (txt x),.pointer (some ⟨bx,0,none⟩)] w fun e w'=>e=.returned (.bool (otherB b x))∧Below w.heap.size w w':=by
 have hop:=open_any (txt x)
 rw [txt_data] at hop
 have HO:=Lib.hid hop
 have HB:=Lib.hid (fun m=>drewN_below w.heap.size w m)
 clear hop
 go_enter Tryz.func81,Tryz.ntmps81
 go_wp2
 go_quiet (first | (go_at_call 80;exact still12 (HO.out _)))
 go_wp2
 go_ret
 exact ⟨rfl,HB.out _⟩
theorem other_none {b:Bool} {l:List BT} (h:∀ j (hj:j < l.length),otherB b l[j]=false):l.any (otherB b)=false:=by
 rw [List.any_eq_false]
 intro p hp
 obtain ⟨j,hj,rfl⟩:=List.getElem_of_mem hp
 simp [h j hj]
theorem other_some {b:Bool} {l:List BT} {j:Nat} {x:BT} (hj:l[j]? = some x) (h:otherB b x=true):l.any (otherB b)=true:=by
 rw [List.any_eq_true]
 exact ⟨x,List.mem_of_getElem? hj,h⟩
set_option maxRecDepth 100000 in
set_option maxHeartbeats 2000000 in
theorem indexOther_any (v:Value) (l:List BT) (b:Bool) (bx:Nat) (w:World) (hr:ReadsO w w.heap.size v (l.map txt)) (hn:l.length≤1000000) (hb:w.cell? ⟨bx,0,none⟩=some (.bool b)) (hlt:bx < w.heap.size) :
  Calls Tryz.prog 122 #[v,.func (.func 81) #[] #[.pointer (some ⟨bx,0,none⟩)]] w fun e w'=>∃ i:Int,e=.returned (.int .i64 i)∧(decide (0≤i)=l.any (otherB b))∧Below w.heap.size w w':=by
 obtain ⟨o,c,rfl,hx⟩:=hr
 rw [List.length_map] at hx ⊢
 obtain ⟨n,hnl⟩:∃ n,n=l.length:=⟨_,rfl⟩
 rw [← hnl] at hx hn ⊢
 have HX:Hid (∀ k,k < n→∃ x g f,l[k]? = some x∧o=some ⟨g,f,none⟩∧n≤c∧∀ W,Below w.heap.size w W→W.cell? ⟨g,f+k,none⟩=some (.string (txt x))∧Calls Tryz.prog 81 #[.string (txt x),.pointer (some ⟨bx,0,none⟩)] W fun e w'=>e=.returned (.bool (otherB b x))∧Below W.heap.size W w'):=fun k hk=>by
  have k1:l[k]? = some l[k]:=List.getElem?_eq_getElem (by omega)
  obtain ⟨g,f,p1,p2,p3,p4⟩:=hx k (txt l[k]) (by rw [List.getElem?_map,k1];rfl)
  exact ⟨_,g,f,k1,p1,p3,fun W hb'=>⟨(hb'.cell (p:=⟨g,f+k,none⟩) p2).trans p4,other_any b _ bx W ((hb'.cell (p:=⟨bx,0,none⟩) hlt).trans hb)⟩⟩
 have HN:=Lib.hid hnl
 clear hx hnl hb
 go_enter Tryz.func122,Tryz.ntmps122
 go_wp2
 go_loopw [5,8] (fun _ i wr=>∃ k:Nat,k≤n∧i=.int .i64 k∧Hid (Below w.heap.size w wr)∧Hid (∀ j (hj:j < l.length),j < k→otherB b l[j]=false)) (fun _ i _=>n - (intOf i).toNat)
 case atStart=>exact ⟨0,Nat.zero_le _,rfl,Below.refl _ _,fun j hj h=>absurd h (Nat.not_lt_zero _)⟩
 case round =>
  obtain ⟨k,hk,rfl,HB,HA⟩:=hrel
  by_cases hkn:k < n
  ·obtain ⟨x,g,f,hx,rfl,hkc,hW⟩:=HX.out k hkn
   obtain ⟨hcell,hC⟩:=hW wr HB.out
   have hki:(k:Int) < (n:Int):=by omega
   cases h1:otherB b x with
   | true =>
    rw [h1] at hC
    have HC:=Lib.hid hC
    have HT:=Lib.hid (other_some hx h1)
    clear hC hW h1 hx
    go_wp2_with (go_at_call 81;refine HC.out.mono ?_;rintro e w' ⟨rfl,hb2⟩)
    go_ret
    exact ⟨_,rfl,by rw [HT.out];simp,HB.out.trans (hb2.mono HB.out.size)⟩
   | false =>
    rw [h1] at hC
    have HC:=Lib.hid hC
    have HA2:Hid (∀ j (hj:j < l.length),j < k+1→otherB b l[j]=false):=fun j hj hjk=>by
     by_cases hjk':j < k
     ·exact HA.out j hj hjk'
     ·have:j=k:=by omega
      subst this
      obtain ⟨_,h2⟩:=List.getElem?_eq_some_iff.1 hx
      rw [h2];exact h1
    clear hC hW h1 hx HA
    go_wp2_with (go_at_call 81;refine HC.out.mono ?_;rintro e w' ⟨rfl,hb2⟩)
    have HB2:Hid (Below w.heap.size w w'):=HB.out.trans (hb2.mono HB.out.size)
    clear hb2 HB HC
    go_roundw
    case rel=>exact ⟨k+1,by omega,by go_num,HB2,HA2⟩
    case measure=>simp [intOf];omega
  ·have HT:=Lib.hid (other_none fun j hj=>HA.out j hj (by rw [← HN.out] at hj;omega))
   clear HA
   go_wp2
   go_ret
   exact ⟨_,rfl,by rw [HT.out];simp,HB.out⟩
set_option maxHeartbeats 1000000 in
theorem containsOther_any (v:Value) (l:List BT) (b:Bool) (bx:Nat) (w:World) (hr:ReadsO w w.heap.size v (l.map txt)) (hn:l.length≤1000000) (hb:w.cell? ⟨bx,0,none⟩=some (.bool b)) (hlt:bx < w.heap.size) :
  Calls Tryz.prog 82 #[v,.func (.func 81) #[] #[.pointer (some ⟨bx,0,none⟩)]] w fun e w'=>e=.returned (.bool (l.any (otherB b)))∧Below w.heap.size w w':=by
 have HI:=Lib.hid (indexOther_any v l b bx w hr hn hb hlt)
 clear hr hn hb hlt
 go_enter Tryz.func82,Tryz.ntmps82
 go_wp2_with (go_at_call 122;refine HI.out.mono ?_;rintro e w' ⟨i,rfl,hi,hb2⟩)
 go_ret
 exact ⟨by rw [← hi];rfl,hb2⟩
section
variable {w0 w:World} {c:Ctx} {L:List Own} {kn:List KV} {st:St}
theorem RS.textAt (h:RS w0 c L kn st w) {o:Option Addr} {n cc:Nat} {l:List BT} (hm:oTexts (.slice o n cc) l∈L) {j:Nat} {x:BT} (hj:l[j]? = some x):∃ g,o=some ⟨g,0,none⟩∧n≤cc∧w.cell? ⟨g,j,none⟩=some (.string (txt x)) :=
 let ⟨_,h1,_⟩:=h;h1.textAt (List.mem_append_right _ hm) hj
theorem RS.textLen (h:RS w0 c L kn st w) {v:Value} {l:List BT} (hm:oTexts v l∈L):∃ o cc,v=.slice o l.length cc :=
 let ⟨_,h1,_⟩:=h;h1.textLen (List.mem_append_right _ hm)
theorem RS.readsO (h:RS w0 c L kn st w) {v:Value} {l:List BT} (hm:oTexts v l∈L):ReadsO w w.heap.size v (l.map txt):=by
 obtain ⟨s,h1,_⟩:=h
 obtain ⟨o,cc,hv,h2,h3⟩:=h1.rowShape (E := 9) (k:=1) (enc:=encS) (v:=v) (l:=l) (List.mem_append_right _ hm) (fun _=>rfl)
 refine ⟨o,cc,by rw [List.length_map];exact hv,fun j y hj=>?_⟩
 rw [List.getElem?_map] at hj
 obtain ⟨z,hz,rfl⟩:=Option.map_eq_some_iff.1 hj
 obtain ⟨g,hg,hl,_,hc⟩:=h3 j z hz
 have:=hc 0 (by omega)
 rw [Nat.mul_one,Nat.add_zero] at this
 exact ⟨g,0,hg,hl,by rw [List.length_map];exact h2,by rw [Nat.zero_add];exact this⟩
theorem RS.perm {L':List Own} (h:RS w0 c L kn st w) (hp:L.Perm L'):RS w0 c L' kn st w:=let ⟨s,h1,h2⟩:=h;⟨s,h1.perm (hp.append_left _),h2⟩
theorem RS.once {mb n:Nat} {k l:List BT} {v:Value} (h:RS w0 c (oMap mb n (setF k) :: L) kn st w) (hm:oTexts v l∈L) (hn:n+l.length≤1000000) (hs:∀ x∈l,x.length≤1000000) :
  Calls Tryz.prog 77 #[v,.map (some mb)] w fun e w'=>∃ o cc n',e=.returned (.slice o (onceL k l).length cc)∧n'≤n+l.length∧RS w0 c (oTexts (.slice o (onceL k l).length cc) (onceL k l) :: oMap mb n' (setF (l++k)) :: L) kn st w':=by
 obtain ⟨s,h1,h2⟩:=h
 refine (ronce_any w0 (owns c s st++L) mb n k l v w (h1.pull 9 rfl) (List.mem_append_right _ hm) hn hs).mono ?_
 rintro e w' ⟨o,cc,n',he,hn',hI⟩
 exact ⟨o,cc,n',he,hn',s,((hI.swap.push 10 (Nat.le_add_left 10 _)).push 9 (Nat.le_add_left 9 _)),h2⟩
theorem RS.filled {l:List BT} {v:Value} {sm:BT} (h:RS w0 c L kn st w) (hm:oTexts v l∈L) (hn:l.length≤1000000) (hs:∀ x∈l,x.length≤1000000) (hst:sm.length≤1000000) :
  Calls Tryz.prog 120 #[v,.string (txt sm)] w fun e w'=>∃ o cc,e=.returned (.slice o l.length cc)∧RS w0 c (oTexts (.slice o l.length cc) (l.map fun x=>fillL x sm) :: L) kn st w':=by
 obtain ⟨s,h1,h2⟩:=h
 refine (filled_any w0 (owns c s st++L) l sm v w h1 (List.mem_append_right _ hm) hn hs hst).mono ?_
 rintro e w' ⟨o,cc,he,hI⟩
 exact ⟨o,cc,he,s,hI.push 9 (Nat.le_add_left 9 _),h2⟩
theorem RS.makeSeen (h:RS w0 c L kn st w):RS w0 c (oMap w.heap.size 0 (setF []) :: L) kn st (w.alloc (.map #[] 0)):=by
 have e:setF []=fun _=>none:=by funext q;unfold setF;simp
 rw [e]
 exact h.more (l:=[_]) (In.mapMake (In.nil (Below.refl _ w)))
end
end Go.Proofs.YtmfjolmfbdbegaaGreatDoor

namespace Go.Proofs.YtmfjolmfbdbegaaGreatDoor
open Go.RowKit Go.Shelf Go.Maps
attribute [local go_sem] Oper.semAt_some
abbrev oneO (g:Nat) (t:BT):Own:=oTexts (.slice (some ⟨g,0,none⟩) 1 1) [t]
section
variable {w0 w:World} {c:Ctx} {L:List Own} {kn:List KV} {st:St}
theorem RS.build (h:RS w0 c L kn st w) (t:BT):RS w0 c (oneO w.heap.size t :: L) kn st (w.alloc (.cells #[.string (txt t)] 9)):=by
 have hb:Below w.heap.size w (w.alloc (.cells #[.string (txt t)] 9)):=(Below.refl _ w).alloc (Nat.le_refl _) _
 refine h.more (l:=[oneO w.heap.size t]) (In.add (X:=fun m=>m=w.heap.size) (In.nil (Below.refl _ w)) hb ⟨⟨rfl,.inr ⟨w.heap.size,1,#[.string (txt t)],rfl,Nat.zero_le _,World.alloc_heap_new w _,Nat.le_refl _,by decide,rfl,rfl⟩⟩,fun g hg=>?_,fun m hm=>?_⟩ (fun m hm=>by omega))
 ·simp only [Value.ownBlock,Option.some.injEq] at hg;exact hg.symm
 ·rw [hm];simp
theorem RS.drew (h:RS w0 c L kn st w):RS w0 c L kn st w.drew:=h.below (below_drew1 w)
theorem RS.pull (i:Nat) {e:Own} (h:RS w0 c L kn st w) (he:L[i]? = some e):RS w0 c (e :: L.eraseIdx i) kn st w:=by
 obtain ⟨hi,rfl⟩:=List.getElem?_eq_some_iff.1 he
 exact h.perm (erase_perm L i hi).symm
theorem RS.cellsAt (h:RS w0 c L kn st w) {b:Nat} {cs:List Value} {t:TypeId} (hm:oCells b cs t∈L):w.heap[b]? = some (.cells cs.toArray t (0,0)):=let ⟨_,h1,_⟩:=h;h1.cells (List.mem_append_right _ hm)
theorem RS.onceAt (i:Nat) {mb n:Nat} {k l:List BT} {v:Value} (h:RS w0 c L kn st w) (he:L[i]? = some (oMap mb n (setF k))) (hm:oTexts v l∈L.eraseIdx i) (hn:n+l.length≤1000000) (hs:∀ x∈l,x.length≤1000000) :
  Calls Tryz.prog 77 #[v,.map (some mb)] w fun e w'=>∃ o cc n',e=.returned (.slice o (onceL k l).length cc)∧n'≤n+l.length∧RS w0 c (oTexts (.slice o (onceL k l).length cc) (onceL k l) :: oMap mb n' (setF (l++k)) :: L.eraseIdx i) kn st w' :=
 (h.pull i he).once hm hn hs
end
abbrev boxN (xb:Nat) (n:Nd) (rv:Value):Own:=oCells xb [.int .i64 n.kind,.int .i64 n.no,.string (txt n.op),.string (txt n.name),.string (txt n.text),.string (txt n.targets),.string (txt n.pattern),.string (txt n.inputs),.string (txt n.order),rv] 79
abbrev boxW (xb:Nat) (p:BT) (no:Int):Own:=oCells xb [.string (txt p),.int .i64 no] 33
abbrev boxes2 (xb:Nat) (n:Nd) (rv:Value) (p:BT) (no:Int) (L:List Own):List Own:=boxW (xb+1) p no :: boxN xb n rv :: L
theorem RS.boxes {w0 w:World} {c:Ctx} {L:List Own} {kn:List KV} {st:St} (h:RS w0 c L kn st w) (n:Nd) (rv:Value) (p:BT) (no:Int):RS w0 c (boxes2 w.heap.size n rv p no L) kn st (plB (ndB w n rv) p no):=by
 have h1:=h.more (l:=[boxN w.heap.size n rv]) ((In.nil (Below.refl _ w)).alloc _ _)
 have h2:=h1.more (l:=[_]) ((In.nil (Below.refl _ (ndB w n rv))).alloc [.string (txt p),.int .i64 no] 33)
 rw [World.size_alloc] at h2
 exact h2
theorem ten_cells {w:World} {b:Nat} {a0 a1 a2 a3 a4 a5 a6 a7 a8 a9:Value} {T:TypeId} (h:w.heap[b]? = some (.cells #[a0,a1,a2,a3,a4,a5,a6,a7,a8,a9] T (0,0))) :
  w.cell? ⟨b,0,none⟩=some a0∧w.cell? ⟨b,1,none⟩=some a1∧w.cell? ⟨b,2,none⟩=some a2∧w.cell? ⟨b,3,none⟩=some a3∧w.cell? ⟨b,4,none⟩=some a4∧w.cell? ⟨b,5,none⟩=some a5∧w.cell? ⟨b,6,none⟩=some a6∧w.cell? ⟨b,7,none⟩=some a7∧w.cell? ⟨b,8,none⟩=some a8∧w.cell? ⟨b,9,none⟩=some a9:=by
 refine ⟨?_,?_,?_,?_,?_,?_,?_,?_,?_,?_⟩ <;> (rw [Lib.cell_of_heap h];rfl)
def ThreeC (xb:Nat) (rv:Value) (p:BT) (no:Int) (W:World):Prop:=W.cell? ⟨xb,9,none⟩=some rv∧W.cell? ⟨xb+1,0,none⟩=some (.string (txt p))∧W.cell? ⟨xb+1,1,none⟩=some (.int .i64 no)
theorem RS.three {w0 w:World} {c:Ctx} {L:List Own} {kn:List KV} {st:St} {xb:Nat} {n:Nd} {rv:Value} {p:BT} {no:Int} (h:RS w0 c L kn st w) (h1:boxN xb n rv∈L) (h2:boxW (xb+1) p no∈L):ThreeC xb rv p no w:=by
 obtain ⟨_,_,_,_,_,_,_,_,_,q9⟩:=ten_cells (h.cellsAt h1)
 obtain ⟨p0,p1,_⟩:=two_cells (h.cellsAt h2)
 exact ⟨q9,p0,p1⟩
def RecKeeps (c:Ctx) (kn:List KV) (rv:Value) (rec:List BT):Prop:=∀ (w0:World) (L:List Own) (st:St) (w:World),RS w0 c L kn st w→RecIn w rv rec
theorem match_short (p s:BT):(matchL p s).1.length≤s.length:=by
 unfold matchL
 split
 ·split
  ·split
   ·simp only [List.length_take,List.length_drop];omega
   ·simp
  ·simp
 ·simp
theorem fill_short (p s:BT):(fillL p s).length≤p.length+s.length:=by
 unfold fillL
 split
 ·have h1:(aheadL p).length+(behindL p).length≤p.length:=by
   unfold aheadL behindL
   have:(p.takeWhile fun c=>c != 37).length+(p.dropWhile fun c=>c != 37).length=p.length:=by rw [← List.length_append,List.takeWhile_append_dropWhile]
   rw [List.length_drop]
   omega
  simp only [List.length_append]
  omega
 ·omega
theorem onceL_mem:∀ {l k:List BT} {x:BT},x∈onceL k l→x∈l
 | [],_,_,h=>h
 | w :: r,k,x,h=>by
  by_cases hk:w∈k
  ·rw [once_in _ hk] at h;exact List.mem_cons_of_mem _ (onceL_mem h)
  ·rw [once_out _ hk] at h
   rcases List.mem_cons.1 h with rfl | h
   ·exact List.mem_cons_self
   ·exact List.mem_cons_of_mem _ (onceL_mem h)
def WdsOk (l:List BT):Prop:=l.length≤200∧∀ x∈l,x.length≤4000
structure PatAt (p:BT) (no:Int) (pat:BT) (is os rc ts:List BT) (st:St) (i:Nat) (st':St):Prop where
 told:foldE (byPatE p no pat is os rc) ts st=foldE (byPatE p no pat is os rc) (ts.drop i) st'
 rules:st'.rules.length≤st.rules.length+i
 phony:st'.phony.length≤st.phony.length+200*i
theorem PatAt.start (p:BT) (no:Int) (pat:BT) (is os rc ts:List BT) (st:St):PatAt p no pat is os rc ts st 0 st:=⟨rfl,Nat.le_refl _,Nat.le_refl _⟩
theorem PatAt.step {p:BT} {no:Int} {pat:BT} {is os rc ts:List BT} {st:St} {i:Nat} {st':St} {t:BT} (h:PatAt p no pat is os rc ts st i st') (ht:ts[i]? = some t) :
  foldE (byPatE p no pat is os rc) ts st=Eb (byPatE p no pat is os rc t st') (foldE (byPatE p no pat is os rc) (ts.drop (i+1))):=by
 obtain ⟨h1,h2⟩:=List.getElem?_eq_some_iff.1 ht
 rw [h.told,List.drop_eq_getElem_cons h1,h2,fold_cons]
theorem PatAt.next {p:BT} {no:Int} {pat:BT} {is os rc ts:List BT} {st:St} {i:Nat} {st' st2:St} {t:BT} (h:PatAt p no pat is os rc ts st i st') (ht:ts[i]? = some t) (his:is.length≤200)
  (hm:((matchL pat t).2 && openB pat)=true) (ha:addE p no (oneOf pat is os rc t) st'=.ok st2):PatAt p no pat is os rc ts st (i+1) st2:=by
 have hb:byPatE p no pat is os rc t st'=.ok st2:=by unfold byPatE;rw [if_neg (by rw [hm];simp),ha]
 obtain ⟨_,a2,a3⟩:=add_fit ha
 have:=one_inputs pat is os rc t
 have h1:=h.rules
 have h2:=h.phony
 exact ⟨by rw [h.step ht,hb];rfl,by omega,by omega⟩
theorem PatAt.done {p:BT} {no:Int} {pat:BT} {is os rc ts:List BT} {st:St} {i:Nat} {st':St} (h:PatAt p no pat is os rc ts st i st') (hi:ts.length≤i):foldE (byPatE p no pat is os rc) ts st=.ok st':=by
 rw [h.told,List.drop_eq_nil_of_le hi];rfl
theorem StPost.err {w0 w':World} {c:Ctx} {L:List Own} {kn:List KV} {f:Flt} {e:Ending} (h:StPost w0 c L kn (.error f) e w'):e=panE f∧In w0 L w':=by
 rcases h with ⟨f2,hf,he,hI⟩ | ⟨st,hs,_⟩
 ·cases hf;exact ⟨he,hI⟩
 ·cases hs
theorem StPost.ok {w0 w':World} {c:Ctx} {L:List Own} {kn:List KV} {st:St} {e:Ending} (h:StPost w0 c L kn (.ok st) e w'):e=.returned (.tuple #[])∧RS w0 c L kn st w':=by
 rcases h with ⟨f2,hf,_⟩ | ⟨st2,hs,he,hR⟩
 ·cases hf
 ·cases hs;exact ⟨he,hR⟩
theorem RS.mid {w0 w:World} {c:Ctx} {L:List Own} {kn:List KV} {st:St} {a b d x y z:Own} (h:RS w0 c (a :: b :: d :: x :: y :: z :: L) kn st w):RS w0 c (a :: b :: d :: L) kn st w :=
 RS.less (l:=[_]) (RS.pull 3 (RS.less (l:=[_]) (RS.pull 3 (RS.less (l:=[_]) (RS.pull 3 h rfl)) rfl)) rfl)
section
variable {w0 w:World} {c:Ctx} {L:List Own} {kn:List KV} {st:St} {o m r1 r2 f1 f2:Own}
theorem RS.pick1 (h:RS w0 c (o :: r2 :: m :: f2 :: r1 :: f1 :: L) kn st w):RS w0 c (o :: r1 :: r2 :: L) kn st w:=(((h.pull 1 rfl).pull 4 rfl).pull 2 rfl).mid
theorem RS.pick2 (h:RS w0 c (r2 :: m :: o :: f2 :: r1 :: f1 :: L) kn st w):RS w0 c (o :: r1 :: r2 :: L) kn st w:=(((h.pull 0 rfl).pull 4 rfl).pull 3 rfl).mid
theorem RS.pick3 (h:RS w0 c (r2 :: m :: f2 :: o :: r1 :: f1 :: L) kn st w):RS w0 c (o :: r1 :: r2 :: L) kn st w:=(((h.pull 0 rfl).pull 4 rfl).pull 4 rfl).mid
theorem RS.pick4 (h:RS w0 c (r2 :: m :: f2 :: r1 :: o :: f1 :: L) kn st w):RS w0 c (o :: r1 :: r2 :: L) kn st w:=(((h.pull 0 rfl).pull 3 rfl).pull 4 rfl).mid
theorem RS.pick5 (h:RS w0 c (r2 :: m :: f2 :: r1 :: f1 :: o :: L) kn st w):RS w0 c (o :: r1 :: r2 :: L) kn st w:=(((h.pull 0 rfl).pull 3 rfl).pull 5 rfl).mid
end
theorem oneOf_small {pat:BT} {is os rc:List BT} {t:BT} (hi:WdsOk is) (ho:WdsOk os) (ht:t.length≤4000) :
  (∀ y∈(oneOf pat is os rc t).all,y.length≤1000000)∧(∀ x∈is.map fun x=>fillL x (matchL pat t).1,x.length≤1000000)∧(∀ x∈os.map fun x=>fillL x (matchL pat t).1,x.length≤1000000)∧(matchL pat t).1.length≤1000000 ∧
  (onceL [] (is.map fun x=>fillL x (matchL pat t).1)).length≤200∧(onceL (is.map fun x=>fillL x (matchL pat t).1) (os.map fun x=>fillL x (matchL pat t).1)).length≤200:=by
 have hs:=match_short pat t
 have hf:∀ l:List BT,WdsOk l→∀ x∈l.map fun x=>fillL x (matchL pat t).1,x.length≤1000000:=fun l hl x hx=>by
  obtain ⟨y,hy,rfl⟩:=List.mem_map.1 hx
  have:=fill_short y (matchL pat t).1
  have:=hl.2 y hy
  omega
 refine ⟨fun y hy=>?_,hf is hi,hf os ho,by omega,Nat.le_trans (onceL_len _ _) (by rw [List.length_map];exact hi.1),Nat.le_trans (onceL_len _ _) (by rw [List.length_map];exact ho.1)⟩
 unfold RuleM.all oneOf at hy
 rcases List.mem_append.1 hy with hy | hy
 ·rw [List.mem_singleton.1 hy];omega
 rcases List.mem_append.1 hy with hy | hy
 ·exact hf is hi y (onceL_mem hy)
 ·exact hf os ho y (onceL_mem hy)
end Go.Proofs.YtmfjolmfbdbegaaGreatDoor

namespace Go.Proofs.YtmfjolmfbdbegaaGreatDoor
open Go.RowKit Go.Shelf Go.Maps
attribute [local go_sem] Oper.semAt_some
set_option maxRecDepth 100000 in
set_option maxHeartbeats 32000000 in
theorem byPattern_any (w0 : World) (c : Ctx) (L : List Own) (kn : List KV) (st : St) (n : Nd) (ro : Option Addr) (rn rc : Nat) (p : BT) (ts is os : List BT) (ta io oo : Option Addr) (tn tc im ic on oc : Nat) (w : World)
    (h : RS w0 c L kn st w) (h1 : oTexts (.slice ta tn tc) ts ∈ L) (h2 : oTexts (.slice io im ic) is ∈ L) (h3 : oTexts (.slice oo on oc) os ∈ L)
    (hst : Std w0) (hE : EnvOk st.env 21) (hn : NdOk n) (hts : WdsOk ts) (his : WdsOk is) (hos : WdsOk os) (hrec : RecKeeps c kn (.slice ro rn rc) n.recipe) (hsr : st.rules.length ≤ 500000) (hsp : st.phony.length ≤ 50000000) :
    Calls Tryz.prog 79 #[.pointer (some ⟨c.rb, 0, none⟩), ndV n (.slice ro rn rc), atV p n.no, .slice ta tn tc, .slice io im ic, .slice oo on oc] w
      (StPost w0 c L kn (Eb (exE st.env p n.no n.pattern) fun q => foldE (byPatE p n.no (trimOf q) is os n.recipe) ts st)) := by
  obtain ⟨xb, hxb⟩ : ∃ xb, xb = w.heap.size := ⟨_, rfl⟩
  have hB := h.boxes n (.slice ro rn rc) p n.no
  rw [← hxb] at hB
  have hX := rexpand12_any c.rb st.env n.pattern p n.no _ (hB.re hst hE) (by have := hn.pattern; omega)
  have HX := Lib.hid hX
  have hlen := expand_len st.env n.pattern
  have HQ : Hid (∀ q, exE st.env p n.no n.pattern = .ok q → q.length ≤ 4000) := fun q hq => by
    unfold exE at hq
    split at hq
    · cases hq; exact hlen
    · cases hq
  generalize exE st.env p n.no n.pattern = r at HX HQ
  obtain ⟨q0, q1, q2, q3, q4, q5, q6, q7, q8, q9⟩ := ten_cells (hB.cellsAt (b := xb) (cs := [.int .i64 n.kind, .int .i64 n.no, .string (txt n.op), .string (txt n.name), .string (txt n.text), .string (txt n.targets), .string (txt n.pattern), .string (txt n.inputs), .string (txt n.order), .slice ro rn rc]) (t := 79) (by simp [boxes2]))
  obtain ⟨p0, p1, _⟩ := two_cells (hB.cellsAt (b := xb + 1) (cs := [.string (txt p), .int .i64 n.no]) (t := 33) (by simp [boxes2]))
  have HB := Lib.hid hB
  have hlt : tn = ts.length := by
    obtain ⟨o, cc, hv⟩ := h.textLen h1
    cases hv; rfl
  have HTs : Hid (tn = ts.length) := hlt
  have htn : tn ≤ 200 := by rw [hlt]; exact hts.1
  have HW : Hid (∀ x ∈ ts, x.length ≤ 4000) := hts.2
  have HIs := Lib.hid his
  have HOs := Lib.hid hos
  have HM1 := Lib.hid h1
  have HM2 := Lib.hid h2
  have HM3 := Lib.hid h3
  have HRec := Lib.hid hrec
  have hrl : n.recipe.length ≤ 1000 := hn.recipe.1
  clear h hB hX hE hn hlt hlen h1 h2 h3 his hos hts hrec
  subst hxb
  have hmm := @run_makeMap Tryz.prog
  go_enter Tryz.func79, Tryz.ntmps79
  go_wp2_with fail
  refine HX.out.mono ?_
  rintro e w1 ⟨hb1, ⟨f, rfl, rfl⟩ | ⟨q, rfl, rfl⟩⟩
  · have HR : Hid (In w0 L w1) := ((HB.out.below hb1).rest).drop (l1 := [_, _])
    clear hb1 HX
    unfold panE
    go_wp2_with fail
    exact ⟨rfl, .inl ⟨f, rfl, rfl, HR.out⟩⟩
  · have hq := HQ.out q rfl
    have HB1 := Lib.hid (HB.out.below hb1)
    have HT := Lib.hid (trim_any (txt q) (by rw [txt_size]; unfold maxLen; omega) w1)
    rw [txt_data] at HT
    clear hb1 HX HQ HB
    go_wp2_with fail
    refine HT.out.mono ?_
    rintro e w2 ⟨rfl, hb2⟩
    have HB2 := Lib.hid (HB1.out.below hb2)
    have hpl : (trimOf q).length ≤ 4000 := trim_le hq
    have HV : Hid ((Eb (Except.ok q : Ev BT) fun q => foldE (byPatE p n.no (trimOf q) is os n.recipe) ts st) = foldE (byPatE p n.no (trimOf q) is os n.recipe) ts st) := rfl
    generalize trimOf q = pat at *
    clear hb2 HT HB1 hq q0 q1 q2 q3 q4 q5 q6 q7 q8 q9 p0 p1
    go_wp2_with fail
    go_loopw [26] (fun zv wr => ∃ (i : Nat) (st' : St), i ≤ tn ∧ zv = .int .i64 i ∧ Hid (PatAt p n.no pat is os n.recipe ts st i st') ∧ Hid (RS w0 c (boxes2 w.heap.size n (.slice ro rn rc) p n.no L) kn st' wr)) (fun zv _ => tn - (intOf zv).toNat)
    case atStart => exact ⟨0, st, Nat.zero_le _, rfl, PatAt.start _ _ _ _ _ _ _ _, HB2.out⟩
    case round =>
      obtain ⟨i, st', hi, rfl, HP, HR⟩ := hrel
      by_cases hlt : i < tn
      · obtain ⟨t, ht⟩ : ∃ t, ts[i]? = some t := ⟨_, List.getElem?_eq_getElem (by rw [← HTs.out]; exact hlt)⟩
        obtain ⟨g, rfl, hnc, hcell⟩ := HR.out.textAt (o := ta) (n := tn) (cc := tc) (l := ts) (by simp [boxes2, HM1.out]) ht
        have htl := HW.out t (List.mem_of_getElem? ht)
        have hii : (i : Int) < (tn : Int) := by omega
        have hM := match_any (txt pat) (txt t) (by rw [txt_size]; unfold maxLen; omega) (by rw [txt_size]; unfold maxLen; omega) wr
        unfold MatchPost at hM
        rw [txt_data, txt_data] at hM
        have HMt := Lib.hid hM
        have HT := Lib.hid ht
        have HStep := Lib.hid (HP.out.step ht)
        have hop := open_any (txt pat)
        rw [txt_data] at hop
        have HOp := Lib.hid hop
        clear hM ht hop
        go_wp2_with fail
        refine HMt.out.mono ?_
        rintro e w3 ⟨rfl, ⟨nd, rfl⟩⟩
        have HR3 := Lib.hid (HR.out.below (drewN_below _ wr nd))
        clear HR hcell HMt
        generalize wr.drewN nd = w3 at HR3 ⊢
        obtain ⟨p0, p1, _⟩ := two_cells (HR3.out.cellsAt (b := w.heap.size + 1) (cs := [.string (txt p), .int .i64 n.no]) (t := 33) (by simp [boxes2]))
        by_cases hgood : ((matchL pat t).2 && openB pat) = true
        · have hm2 : (matchL pat t).2 = true := by cases h : (matchL pat t).2 <;> simp_all
          have hm3 : openB pat = true := by cases h : openB pat <;> simp_all
          have HNx := Lib.hid (fun st2 ha => HP.out.next (st2 := st2) HT.out HIs.out.1 hgood ha)
          have hb : byPatE p n.no pat is os n.recipe t st' = addE p n.no (oneOf pat is os n.recipe t) st' := by unfold byPatE; rw [if_neg (by rw [hgood]; simp)]
          rw [hb] at HStep
          obtain ⟨z1, z2, z3, z4, z5, z6⟩ := oneOf_small (pat := pat) (rc := n.recipe) HIs.out HOs.out htl
          have hrules := HP.out.rules
          have hphony := HP.out.phony
          have hx : oneOf pat is os n.recipe t = ⟨[t], false, (matchL pat t).1, onceL [] (is.map fun x => fillL x (matchL pat t).1), onceL (is.map fun x => fillL x (matchL pat t).1) (os.map fun x => fillL x (matchL pat t).1), n.recipe⟩ := rfl
          rw [hm2]
          rw [hm3] at HOp
          rw [hx] at HStep HNx z1
          obtain ⟨sm, hsm⟩ : ∃ sm, sm = (matchL pat t).1 := ⟨_, rfl⟩
          rw [← hsm] at HStep HNx z1 z2 z3 z4 z5 z6 ⊢
          clear hsm hb hx hgood hm2 hm3 HP
          have HZ : Hid (sm.length ≤ 1000000 ∧ True ∧ is.length ≤ 1000000 ∧ (∀ x ∈ is, x.length ≤ 1000000) ∧ os.length ≤ 1000000 ∧ (∀ x ∈ os, x.length ≤ 1000000) ∧ 0 + (is.map fun x => fillL x sm).length ≤ 1000000 ∧ (∀ x ∈ is.map fun x => fillL x sm, x.length ≤ 1000000) ∧ (∀ x ∈ os.map fun x => fillL x sm, x.length ≤ 1000000)) :=
            ⟨z4, trivial, by have := HIs.out.1; omega, fun x hx => by have := HIs.out.2 x hx; omega, by have := HOs.out.1; omega, fun x hx => by have := HOs.out.2 x hx; omega, by have := HIs.out.1; simp; omega, z2, z3⟩
          have HZ2 : Hid (∀ n4, n4 ≤ 0 + (is.map fun x => fillL x sm).length → n4 + (os.map fun x => fillL x sm).length ≤ 1000000) := fun n4 hn4 => by
            have := HIs.out.1
            have := HOs.out.1
            rw [List.length_map] at hn4 ⊢
            omega
          have HAdd : Hid (∀ (g : Nat) (o4 o6 : Option Addr) (m4 c4 m6 c6 : Nat) (W : World) (_ : Unit), RS w0 c (oneO g t :: oTexts (.slice o4 m4 c4) (onceL [] (is.map fun x => fillL x sm)) :: oTexts (.slice o6 m6 c6) (onceL (is.map fun x => fillL x sm) (os.map fun x => fillL x sm)) :: boxes2 w.heap.size n (.slice ro rn rc) p n.no L) kn st' W →
              Calls Tryz.prog 83 #[.pointer (some ⟨c.rb, 0, none⟩), .agg #[.slice (some ⟨g, 0, none⟩) 1 1, .bool false, .string (txt sm), .slice o4 m4 c4, .slice o6 m6 c6, .slice ro rn rc], atV p n.no] W
                (StPost w0 c (boxes2 w.heap.size n (.slice ro rn rc) p n.no L) kn (addE p n.no ⟨[t], false, sm, onceL [] (is.map fun x => fillL x sm), onceL (is.map fun x => fillL x sm) (os.map fun x => fillL x sm), n.recipe⟩ st'))) := fun g o4 o6 m4 c4 m6 c6 W _ hW => by
            refine radd_any w0 c (boxes2 w.heap.size n (.slice ro rn rc) p n.no L) kn st' ⟨[t], false, sm, onceL [] (is.map fun x => fillL x sm), onceL (is.map fun x => fillL x sm) (os.map fun x => fillL x sm), n.recipe⟩ _ _ _ _ _ _ _ _ _ _ _ _ p n.no W hW (HRec.out _ _ _ _ hW) z1 ?_ ?_ ?_ ?_ ?_ ?_
            · show n.recipe.length ≤ _; omega
            · show 1 ≤ _; omega
            · show (onceL _ _).length ≤ _; omega
            · show (onceL _ _).length ≤ _; omega
            · omega
            · omega
          clear z1 z2 z3 z4 z5 z6 hrules hphony
          generalize hadd : addE p n.no ⟨[t], false, sm, onceL [] (is.map fun x => fillL x sm), onceL (is.map fun x => fillL x sm) (os.map fun x => fillL x sm), n.recipe⟩ st' = ra at HAdd HStep
          have HAd := Lib.hid hadd
          clear hadd
          have HErr : Hid (∀ f, ra = .error f → (Eb (Except.ok q : Ev BT) fun q => foldE (byPatE p n.no (trimOf q) is os n.recipe) ts st) = .error f) := fun f hf => HV.out.trans (HStep.out.trans (by rw [hf]; rfl))
          go_wp2_with fail
          refine (HOp.out _).mono ?_
          rintro e w4 ⟨rfl, rfl⟩
          have hA2 := HR3.out.makeSeen
          go_upto_region 9 with fail
          clear HR3 p0 p1 HOp HTs HRec
          generalize w4.heap.size = mb at hA2 ⊢
          generalize w4.alloc (.map #[] 0) = w8 at hA2 ⊢
          go_region_held2 (fun W => W.cell? ⟨w.heap.size, 9, none⟩ = some (.slice ro rn rc) ∧ W.cell? ⟨w.heap.size + 1, 0, none⟩ = some (.string (txt p)) ∧ W.cell? ⟨w.heap.size + 1, 1, none⟩ = some (.int .i64 n.no))
          (first | exact RS.three (n := n) (by first | with_reducible assumption | with_reducible exact RS.drew (by with_reducible assumption) | with_reducible exact RS.build (by with_reducible assumption) t | with_reducible exact RS.drew (RS.build (by with_reducible assumption) t) | with_reducible exact RS.build (RS.drew (by with_reducible assumption)) t) (by simp [boxes2]) (by simp [boxes2]))
          (first
            | (go_at_call 120; with_reducible refine (RS.filled (l := is) (v := .slice io im ic) (sm := sm) (st := st') (kn := kn) (w0 := w0) (c := c) (by first | with_reducible assumption | with_reducible exact RS.drew (by with_reducible assumption) | with_reducible exact RS.build (by with_reducible assumption) t | with_reducible exact RS.drew (RS.build (by with_reducible assumption) t) | with_reducible exact RS.build (RS.drew (by with_reducible assumption)) t) (by simp [boxes2, HM2.out]) HZ.out.2.2.1 HZ.out.2.2.2.1 HZ.out.1).mono ?_; rintro e w3 ⟨o3, c3, rfl, hA3⟩)
            | (go_at_call 120; with_reducible refine (RS.filled (l := os) (v := .slice oo on oc) (sm := sm) (st := st') (kn := kn) (w0 := w0) (c := c) (by first | with_reducible assumption | with_reducible exact RS.drew (by with_reducible assumption) | with_reducible exact RS.build (by with_reducible assumption) t | with_reducible exact RS.drew (RS.build (by with_reducible assumption) t) | with_reducible exact RS.build (RS.drew (by with_reducible assumption)) t) (by simp [boxes2, HM3.out]) HZ.out.2.2.2.2.1 HZ.out.2.2.2.2.2.1 HZ.out.1).mono ?_; rintro e w5 ⟨o5, c5, rfl, hA5⟩)
            | (go_at_call 77; first
                | with_reducible refine (RS.onceAt 1 (n := 0) (k := []) (l := is.map fun x => fillL x sm) (st := st') (kn := kn) (w0 := w0) (c := c) (by first | with_reducible assumption | with_reducible exact RS.drew (by with_reducible assumption) | with_reducible exact RS.build (by with_reducible assumption) t | with_reducible exact RS.drew (RS.build (by with_reducible assumption) t) | with_reducible exact RS.build (RS.drew (by with_reducible assumption)) t) rfl (by simp) HZ.out.2.2.2.2.2.2.1 HZ.out.2.2.2.2.2.2.2.1).mono ?_
                | with_reducible refine (RS.onceAt 2 (n := 0) (k := []) (l := is.map fun x => fillL x sm) (st := st') (kn := kn) (w0 := w0) (c := c) (by first | with_reducible assumption | with_reducible exact RS.drew (by with_reducible assumption) | with_reducible exact RS.build (by with_reducible assumption) t | with_reducible exact RS.drew (RS.build (by with_reducible assumption) t) | with_reducible exact RS.build (RS.drew (by with_reducible assumption)) t) rfl (by simp) HZ.out.2.2.2.2.2.2.1 HZ.out.2.2.2.2.2.2.2.1).mono ?_
               rintro e w5 ⟨o4, c4, n4, rfl, hn4, hA4⟩; rw [List.append_nil] at hA4; simp only [List.eraseIdx_cons_succ, List.eraseIdx_cons_zero] at hA4)
            | (go_at_call 77; first
                | with_reducible refine (RS.onceAt 2 (n := n4) (k := is.map fun x => fillL x sm) (l := os.map fun x => fillL x sm) (st := st') (kn := kn) (w0 := w0) (c := c) (by first | with_reducible assumption | with_reducible exact RS.drew (by with_reducible assumption) | with_reducible exact RS.build (by with_reducible assumption) t | with_reducible exact RS.drew (RS.build (by with_reducible assumption) t) | with_reducible exact RS.build (RS.drew (by with_reducible assumption)) t) rfl (by simp) (HZ2.out n4 hn4) HZ.out.2.2.2.2.2.2.2.2).mono ?_
                | with_reducible refine (RS.onceAt 3 (n := n4) (k := is.map fun x => fillL x sm) (l := os.map fun x => fillL x sm) (st := st') (kn := kn) (w0 := w0) (c := c) (by first | with_reducible assumption | with_reducible exact RS.drew (by with_reducible assumption) | with_reducible exact RS.build (by with_reducible assumption) t | with_reducible exact RS.drew (RS.build (by with_reducible assumption) t) | with_reducible exact RS.build (RS.drew (by with_reducible assumption)) t) rfl (by simp) (HZ2.out n4 hn4) HZ.out.2.2.2.2.2.2.2.2).mono ?_
               rintro e w6 ⟨o6, c6, n6, rfl, hn6, hA6⟩; simp only [List.eraseIdx_cons_succ, List.eraseIdx_cons_zero] at hA6)
            | (go_at_call 83; with_reducible refine (HAdd.out _ _ _ _ _ _ _ _ () ?_).mono ?_; (first | (with_reducible apply RS.pick5; with_reducible assumption) | (with_reducible apply RS.pick5; with_reducible apply RS.drew; with_reducible assumption) | (with_reducible apply RS.pick4; with_reducible assumption) | (with_reducible apply RS.pick4; with_reducible apply RS.drew; with_reducible assumption) | (with_reducible apply RS.pick3; with_reducible assumption) | (with_reducible apply RS.pick3; with_reducible apply RS.drew; with_reducible assumption) | (with_reducible apply RS.pick2; with_reducible assumption) | (with_reducible apply RS.pick2; with_reducible apply RS.drew; with_reducible assumption) | (with_reducible apply RS.pick1; with_reducible assumption) | (with_reducible apply RS.pick1; with_reducible apply RS.drew; with_reducible assumption) | (with_reducible apply RS.pick1; with_reducible apply RS.build; with_reducible assumption) | (with_reducible apply RS.pick1; with_reducible apply RS.drew; with_reducible apply RS.build; with_reducible assumption) | (with_reducible apply RS.pick1; with_reducible apply RS.build; with_reducible apply RS.drew; with_reducible assumption)); intro e w7 hp7; unfold StPost at hp7; rcases hp7 with ⟨f, hf, rfl, hI7⟩ | ⟨st2, hs2, rfl, hA7⟩; (with_unfolding_all exact And.intro rfl (Or.inl ⟨f, HErr.out f hf, rfl, hI7.drop (l1 := [_, _])⟩))))
          all_goals (
            have HP2 := Lib.hid (HNx.out st2 (HAd.out.trans hs2))
            have HA7 := Lib.hid hA7
            clear hA7 hA2 hs2 HNx HStep
            go_wp2_with fail
            go_roundw
            case rel => exact ⟨i + 1, st2, by omega, by go_num, HP2, HA7⟩
            case measure => simp [intOf]; omega)
        · have hb : byPatE p n.no pat is os n.recipe t st' = .error (2, p, n.no) := by unfold byPatE; rw [if_pos (by simpa using hgood)]
          have HErr : Hid ((Eb (Except.ok q : Ev BT) fun q => foldE (byPatE p n.no (trimOf q) is os n.recipe) ts st) = .error (2, p, n.no)) := HV.out.trans (HStep.out.trans (by rw [hb]; rfl))
          have HFl := Lib.hid (fun w => fail_any 2 p n.no w)
          have HR9 : Hid (In w0 L w3) := (HR3.out.rest).drop (l1 := [_, _])
          clear HStep hb HP HR3
          cases hm2 : (matchL pat t).2 with
          | false =>
            clear hgood
            generalize (matchL pat t).1 = sm
            go_wp2_with fail
            with_reducible refine (HFl.out _).mono ?_
            rintro e w5 ⟨rfl, hb5⟩
            unfold panE
            go_wp2_with fail
            exact ⟨rfl, .inl ⟨(2, p, n.no), HErr.out, rfl, HR9.out.below hb5⟩⟩
          | true =>
            have hm3 : openB pat = false := by
              rw [hm2] at hgood
              simpa using hgood
            rw [hm3] at HOp
            clear hgood hm3
            generalize (matchL pat t).1 = sm
            go_wp2_with fail
            refine (HOp.out _).mono ?_
            rintro e w4 ⟨rfl, rfl⟩
            go_wp2_with fail
            with_reducible refine (HFl.out _).mono ?_
            rintro e w5 ⟨rfl, hb5⟩
            unfold panE
            go_wp2_with fail
            exact ⟨rfl, .inl ⟨(2, p, n.no), HErr.out, rfl, HR9.out.below hb5⟩⟩
      · have HE := Lib.hid (HP.out.done (by rw [← HTs.out]; omega))
        have HR9 : Hid (RS w0 c L kn st' wr) := RS.less (l := [_, _]) HR.out
        clear HP HR
        go_wp2_with fail
        go_end0
        exact .inr ⟨st', HV.out.trans HE.out, rfl, HR9.out⟩
end Go.Proofs.YtmfjolmfbdbegaaGreatDoor
