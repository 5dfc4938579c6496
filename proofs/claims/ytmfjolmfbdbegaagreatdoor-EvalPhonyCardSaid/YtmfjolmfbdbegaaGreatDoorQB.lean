/-
  What the program's compared answers. For every two texts of at most a million bytes. No condition.
  What the program's firstWord answers. For every text of at most a million bytes. No condition.
  What the program's rule answers. For every two texts of at most a million bytes. No condition.
  What the program's assignOrRule answers. For every text of at most a million bytes. No condition.
  What the program's node answers: what a line without a tab says, but for its number. For every text of at most a hundred thousand bytes. No condition.
-/
import Derived.Test.YtmfjolmfbdbegaaGreatDoorPA
namespace Go.Proofs.YtmfjolmfbdbegaaGreatDoor
open Go.RowKit Go.Shelf
attribute [local go_sem] Oper.semAt_some
set_option maxRecDepth 100000 in
set_option maxHeartbeats 4000000 in
theorem compared_any (a rest:ByteArray) (hs:rest.size≤1000000) (w:World):Calls Tryz.prog 49 #[.string a,.string rest] w (OnePost (ifL 0 a.data.toList rest.data.toList) w):=by
 have hsm:rest.size≤9223372036854775807:=by omega
 have hmid:=mid_len rest.data.toList
 rw [size_list] at hmid
 have hpl:(Lib.trimPrefix rest.data.toList [40]).length≤rest.size:=by
  unfold Lib.trimPrefix
  split
  ·rw [List.length_drop,size_list];omega
  ·rw [size_list];exact Nat.le_refl _
 have HC1:=Lib.hid (cutPrefix_any rest ⟨#[40]⟩)
 have HC2:=Lib.hid (cutSuffix_any (txt (Lib.trimPrefix rest.data.toList [40])) ⟨#[41]⟩ (by rw [txt_size];omega))
 rw [txt_data] at HC2
 have HC3:=Lib.hid (pcutOne 44 (txt (Lib.trimSuffix (Lib.trimPrefix rest.data.toList [40]) [41])) (by rw [txt_size];omega))
 rw [txt_data] at HC3
 have hq:=paren_is rest.data.toList
 have HQ:=Lib.hid (paren_mid (l:=rest.data.toList))
 change Hid (∀ w,Calls Tryz.prog 70 #[.string rest,.string ⟨#[40]⟩] w fun e w'=>e=.returned (.tuple #[.string (txt (Lib.trimPrefix rest.data.toList [40])),.bool (Lib.hasPrefix rest.data.toList [40])])∧w'=w) at HC1
 change Hid (∀ w,Calls Tryz.prog 71 #[.string (txt (Lib.trimPrefix rest.data.toList [40])),.string ⟨#[41]⟩] w fun e w'=>e=.returned (.tuple #[.string (txt (Lib.trimSuffix (Lib.trimPrefix rest.data.toList [40]) [41])),.bool (Lib.hasSuffix (Lib.trimPrefix rest.data.toList [40]) [41])])∧w'=w) at HC2
 generalize Lib.hasPrefix rest.data.toList [40]=b1 at HC1 hq
 generalize Lib.hasSuffix (Lib.trimPrefix rest.data.toList [40]) [41]=b2 at HC2 hq
 generalize Lib.trimSuffix (Lib.trimPrefix rest.data.toList [40]) [41]=t2 at HC2 HC3 HQ hmid
 generalize Lib.trimPrefix rest.data.toList [40]=t1 at HC1 HC2
 have hl:=cut_len [[44]] t2
 obtain ⟨k1,hk1⟩:∃ x,x=(cutOf [[44]] t2).1:=⟨_,rfl⟩
 obtain ⟨k2,hk2⟩:∃ x,x=(cutOf [[44]] t2).2.1:=⟨_,rfl⟩
 obtain ⟨k3,hk3⟩:∃ x,x=(cutOf [[44]] t2).2.2:=⟨_,rfl⟩
 rw [← hk1,← hk2,← hk3] at HC3
 rw [← hk1,← hk3] at hl
 obtain ⟨y1,hy1⟩:∃ x,x=trimOf k1:=⟨_,rfl⟩
 obtain ⟨y3,hy3⟩:∃ x,x=trimOf k3:=⟨_,rfl⟩
 have HT1:=Lib.hid (trimQ (txt k1) (by rw [txt_size];omega))
 have HT3:=Lib.hid (trimQ (txt k3) (by rw [txt_size];omega))
 rw [txt_data,← hy1] at HT1
 rw [txt_data,← hy3] at HT3
 have HP:Hid (∀ W,Below w.heap.size w W→OnePost (ifL 0 a.data.toList rest.data.toList) w (.returned (.tuple #[.agg (cellsN ⟨3,0,a.data.toList,y1,y3,[],[],[],[],[]⟩),.bool (b1 && b2 && !decide (k2=[]))])) W):=fun W hW=>by
  have hi:ifL 0 a.data.toList rest.data.toList=if b1 && b2 && !decide (k2=[]) then some ⟨3,0,a.data.toList,y1,y3,[],[],[],[],[]⟩ else none:=by
   unfold ifL
   rw [hq]
   by_cases hc:2≤rest.data.toList.length∧rest.data.toList.head? = some 40∧rest.data.toList.getLast? = some 41
   ·rw [if_pos hc,decide_eq_true hc,← HQ.out hc,Bool.true_and]
    simp only
    rw [← hk1,← hk2,← hk3,← hy1,← hy3]
    by_cases h2:k2=[]
    ·rw [if_pos h2,decide_eq_true h2];rfl
    ·rw [if_neg h2,decide_eq_false h2];rfl
   ·rw [if_neg hc,decide_eq_false hc];rfl
  refine ⟨_,by rw [hi];cases (b1 && b2 && !decide (k2=[])) <;> rfl,fun n hn=>?_,hW⟩
  rw [hi] at hn
  split at hn
  ·cases hn;rfl
  ·cases hn
 have eb:(txt k2).toList.isEmpty=decide (k2=[]):=by rw [txt_toL];cases k2 <;> rfl
 generalize decide (k2=[])=bn at eb HP
 have htx:txt a.data.toList=a:=txt_toList a
 have htx0:txt []=⟨#[]⟩:=rfl
 have HTX:=Lib.hid htx
 have HTX0:=Lib.hid htx0
 clear hq HQ hmid hpl hl hk1 hk2 hk3 hy1 hy3 htx htx0
 go_enter Tryz.func49,Tryz.ntmps49
 go_wp2_with fail
 have hZ:ZeroP w (w.alloc (.cells #[.int .i64 0,.int .i64 0,.string ⟨#[]⟩,.string ⟨#[]⟩,.string ⟨#[]⟩,.string ⟨#[]⟩,.string ⟨#[]⟩,.string ⟨#[]⟩,.string ⟨#[]⟩,.slice none 0 0] 79)):=ZeroP.start w
 generalize w.alloc (.cells #[.int .i64 0,.int .i64 0,.string ⟨#[]⟩,.string ⟨#[]⟩,.string ⟨#[]⟩,.string ⟨#[]⟩,.string ⟨#[]⟩,.string ⟨#[]⟩,.string ⟨#[]⟩,.slice none 0 0] 79)=w0 at hZ ⊢
 refine (HC1.out _).mono ?_
 rintro e w' ⟨rfl,hw'⟩
 obtain rfl:=hw'.symm
 go_wp2_with fail
 refine (HC2.out _).mono ?_
 rintro e w' ⟨rfl,hw'⟩
 obtain rfl:=hw'.symm
 go_wp2_with fail
 refine (HC3.out _ _ rfl).mono ?_
 rintro e w1 ⟨rfl,hb1⟩
 have hZ1:=hZ.below hb1
 clear hZ hb1 HC1 HC2 HC3
 go_upto_region 5 with (first
  | (go_at_call 47;with_reducible refine (HT1.out _).mono ?_;rintro e w2 ⟨rfl,hb2⟩)
  | (go_at_call 47;with_reducible refine (HT3.out _).mono ?_;rintro e w3 ⟨rfl,hb3⟩))
 have hZ3:=(hZ1.below hb2).below hb3
 have hN:=hZ3.own #[.int .i64 3,.int .i64 0,.string a,.string (txt y1),.string (txt y3),.string ⟨#[]⟩,.string ⟨#[]⟩,.string ⟨#[]⟩,.string ⟨#[]⟩,.slice none 0 0]
 clear hZ1 hb2 hb3 hZ3
 generalize w3.alloc (.cells #[.int .i64 3,.int .i64 0,.string a,.string (txt y1),.string (txt y3),.string ⟨#[]⟩,.string ⟨#[]⟩,.string ⟨#[]⟩,.string ⟨#[]⟩,.slice none 0 0] 79)=W at hN ⊢
 generalize w3.heap.size=K at hN ⊢
 obtain ⟨⟨c0,c1,c2,c3,c4,c5,c6,c7,c8,c9⟩,fk⟩:=hN.cells
 obtain ⟨hz,fz⟩:=hN.zcells
 obtain ⟨z0,hz0⟩:=hz 0 (by omega)
 obtain ⟨z1,hz1⟩:=hz 1 (by omega)
 obtain ⟨z2,hz2⟩:=hz 2 (by omega)
 obtain ⟨z3,hz3⟩:=hz 3 (by omega)
 obtain ⟨z4,hz4⟩:=hz 4 (by omega)
 obtain ⟨z5,hz5⟩:=hz 5 (by omega)
 obtain ⟨z6,hz6⟩:=hz 6 (by omega)
 obtain ⟨z7,hz7⟩:=hz 7 (by omega)
 obtain ⟨z8,hz8⟩:=hz 8 (by omega)
 obtain ⟨z9,hz9⟩:=hz 9 (by omega)
 clear hz
 have HN:=Lib.hid hN
 clear hN HT1 HT3
 cases b1 <;> cases b2 <;> cases bn <;> (
  go_wp2
  obtain ⟨hbk,r0,r1,r2,r3,r4,r5,r6,r7,r8,r9⟩:=HN.out.fin (.int .i64 3) (.int .i64 0) (.string a) (.string (txt y1)) (.string (txt y3)) (.string ⟨#[]⟩) (.string ⟨#[]⟩) (.string ⟨#[]⟩) (.string ⟨#[]⟩) (.slice none 0 0)
  unfold doneN at hbk r0 r1 r2 r3 r4 r5 r6 r7 r8 r9
  refine bodyPost_ret (v:=.tuple #[.agg (cellsN ⟨3,0,a.data.toList,y1,y3,[],[],[],[],[]⟩),.bool _]) (by simp [results,Tryz.results49,go_sem,HTX.out,HTX0.out,r0,r1,r2,r3,r4,r5,r6,r7,r8,r9]) rfl (HP.out _ hbk))
end Go.Proofs.YtmfjolmfbdbegaaGreatDoor

namespace Go.Proofs.YtmfjolmfbdbegaaGreatDoor
open Go.RowKit Go.Shelf
attribute [local go_sem] Oper.semAt_some
set_option maxRecDepth 100000 in
set_option maxHeartbeats 4000000 in
theorem firstWord_any (s:ByteArray) (hs:s.size≤1000000) (w:World):Calls Tryz.prog 48 #[.string s] w fun e w'=>e=.returned (.tuple #[.string (txt (fwd s.data.toList).1),.string (txt (fwd s.data.toList).2)])∧Below w.heap.size w w':=by
 have HW:=Lib.hid (words_any s (by omega) w)
 rw [words_is] at HW
 have HT:=Lib.hid (trimQ s hs)
 obtain ⟨x,hx⟩:∃ x,x=trimOf s.data.toList:=⟨_,rfl⟩
 rw [← hx] at HT
 have hxl:=trim_len s.data.toList
 rw [← hx,size_list] at hxl
 obtain ⟨ws,hws⟩:∃ ws,ws=wordsL s.data.toList:=⟨_,rfl⟩
 rw [← hws] at HW
 cases ws with
 | nil =>
  rw [fwd_nil hws.symm]
  clear hws hx
  go_enter Tryz.func48,Tryz.ntmps48
  go_wp2_with fail
  refine HW.out.mono ?_
  rintro e w1 ⟨v,rfl,hr,hb1⟩
  obtain ⟨o,c,rfl,_⟩:=hr.o
  clear hr
  simp only [List.map_nil,List.length_nil]
  go_wp2
  go_ret2
  exact ⟨rfl,hb1⟩
 | cons wd ws =>
  rw [fwd_cons hws.symm]
  have hpre:=fwd_prefix hws.symm
  rw [← hx] at hpre
  obtain ⟨rs,hrs⟩:∃ rs,rs=restL (trimOf s.data.toList) wd:=⟨_,rfl⟩
  have HP:=Lib.hid (trimPrefix_any (txt x) (txt wd))
  rw [txt_data,txt_data,hpre] at HP
  have HT2:=Lib.hid (trimQ (txt (x.drop wd.length)) (by rw [txt_size,List.length_drop];omega))
  rw [txt_data] at HT2
  have hrs2:trimOf (x.drop wd.length)=rs:=by rw [hrs,hx];rfl
  rw [hrs2] at HT2
  rw [← hrs]
  obtain ⟨nw,hnw⟩:∃ nw,nw=(wd :: ws).length:=⟨_,rfl⟩
  have hn0:0 < nw:=by rw [hnw];simp
  have hn1:nw≤1000001:=by
   have h1:=pieces_len blankB s.data.toList
   have h2:(wordsL s.data.toList).length≤(pieces blankB s.data.toList).length:=List.length_filter_le _ _
   rw [size_list] at h1
   rw [hnw,hws];omega
  generalize x.drop wd.length=xd at HP HT2
  clear hws hx hpre hrs hrs2
  go_enter Tryz.func48,Tryz.ntmps48
  go_wp2_with fail
  refine HW.out.mono ?_
  rintro e w1 ⟨v,rfl,hr,hb1⟩
  obtain ⟨o,c,rfl,hcx⟩:=hr.o
  obtain ⟨b,f,rfl,hlt,hc,hcell⟩:=hcx 0 (txt wd) rfl
  rw [List.length_map] at hc hcx ⊢
  rw [← hnw] at hc ⊢
  rw [Nat.add_zero] at hcell
  clear hr hcx hnw HW
  have HCell:Hid (∀ W,Below w1.heap.size w1 W→W.cell? ⟨b,f,none⟩=some (.string (txt wd))):=fun W hb=>(hb.cell (p:=⟨b,f,none⟩) hlt).trans hcell
  have hcd:w1.drew.cell? ⟨b,f,none⟩=some (.string (txt wd)):=hcell
  have e0:((nw:Int) == 0)=false:=by simp;omega
  go_wp2_with fail
  go_region_held3 (fun W=>W.cell? ⟨b,f,none⟩=some (.string (txt wd)))
   (first | assumption)
   (first
    | (go_at_call 47;refine (HT.out _).mono ?_;rintro e w2 ⟨rfl,hb2⟩;have hc2:w2.cell? ⟨b,f,none⟩=some (.string (txt wd)):=HCell.out w2 (by first | exact hb2 | exact (drewN_below' (Below.refl _ _)).trans hb2))
    | (go_at_call 69;refine (HP.out _).mono ?_;rintro e w3 ⟨rfl,hw3⟩;obtain rfl:=hw3.symm))
  have hcd2:w2.drew.cell? ⟨b,f,none⟩=some (.string (txt wd)):=hc2
  have HB2:Hid (Below w.heap.size w w2):=(show Below w.heap.size w w1.drew from drewN_below' hb1).trans (hb2.mono (show w.heap.size≤w1.drew.heap.size from hb1.size))
  have hb2':Hid (Below w1.heap.size w1 w2.drew):=drewN_below' ((show Below w1.heap.size w1 w1.drew from drewN_below' (Below.refl _ _)).trans hb2)
  clear HT HP hcd hcell
  go_wp2_with fail
  go_region_held3 (fun W=>W.cell? ⟨b,f,none⟩=some (.string (txt wd)))
   (first | assumption)
   (first
    | (go_at_call 47;refine (HT2.out _).mono ?_;rintro e w3 ⟨rfl,hb3⟩;have hc3:w3.cell? ⟨b,f,none⟩=some (.string (txt wd)):=HCell.out w3 (by first | exact (hb2'.out).trans (hb3.mono hb2'.out.size))))
  go_wp2
  go_ret2
  exact ⟨rfl,(show Below w.heap.size w w2.drew from drewN_below' HB2.out).trans (hb3.mono (show w.heap.size≤w2.drew.heap.size from HB2.out.size))⟩
end Go.Proofs.YtmfjolmfbdbegaaGreatDoor

namespace Go.Proofs.YtmfjolmfbdbegaaGreatDoor
open Go.RowKit Go.Shelf
attribute [local go_sem] Oper.semAt_some
theorem bar_none (l:BS) (h:(cutOf [[124]] l).2.1=[]):(cutOf [[124]] (cutOf [[124]] l).2.2).2.1=[]:=by
 rcases cut_whole [[124]] l with ⟨_,_,h2⟩ | ⟨_,h2,_⟩
 ·rw [h2];rfl
 ·exact absurd h h2
def ruleOk (a b:BS):Bool:=!(decide ((cutOf [[58]] b).2.1≠[]∧rulePat b=[]) || decide (trimOf a=[]) || decide ((cutOf [[58]] (ruleRest b)).2.1≠[]))
theorem rule_ok (a b:BS):(ruleL 0 a b)=if ruleOk a b && decide ((cutOf [[124]] (cutOf [[124]] (ruleRest b)).2.2).2.1=[]) then some ⟨2,0,[],[],[],trimOf a,rulePat b,trimOf (cutOf [[124]] (ruleRest b)).1,trimOf (cutOf [[124]] (ruleRest b)).2.2,[]⟩ else none:=by
 have h:ruleBad a b=!(ruleOk a b && decide ((cutOf [[124]] (cutOf [[124]] (ruleRest b)).2.2).2.1=[])):=by
  unfold ruleBad ruleOk
  rw [Bool.not_and,Bool.not_not]
  congr 1
  by_cases h1:(cutOf [[124]] (ruleRest b)).2.1=[]
  ·rw [bar_none _ h1];simp [h1]
  ·by_cases h2:(cutOf [[124]] (cutOf [[124]] (ruleRest b)).2.2).2.1=[] <;> simp [h1,h2]
 unfold ruleL
 rw [h]
 cases (ruleOk a b && decide ((cutOf [[124]] (cutOf [[124]] (ruleRest b)).2.2).2.1=[])) <;> rfl
set_option maxRecDepth 100000 in
set_option maxHeartbeats 8000000 in
theorem rule_any (a b:ByteArray) (ha:a.size≤1000000) (hb:b.size≤1000000) (w:World):Calls Tryz.prog 74 #[.string a,.string b] w (OnePost (ruleL 0 a.data.toList b.data.toList) w):=by
 have HTa:=Lib.hid (trimQ a ha)
 have HC1:=Lib.hid (pcutOne 58 b hb)
 obtain ⟨k1,hk1⟩:∃ x,x=(cutOf [[58]] b.data.toList).1:=⟨_,rfl⟩
 obtain ⟨k2,hk2⟩:∃ x,x=(cutOf [[58]] b.data.toList).2.1:=⟨_,rfl⟩
 obtain ⟨k3,hk3⟩:∃ x,x=(cutOf [[58]] b.data.toList).2.2:=⟨_,rfl⟩
 obtain ⟨tg,htg⟩:∃ x,x=trimOf a.data.toList:=⟨_,rfl⟩
 rw [← hk1,← hk2,← hk3] at HC1
 rw [← htg] at HTa
 have hl1:=cut_len [[58]] b.data.toList
 rw [← hk1,← hk3,size_list] at hl1
 obtain ⟨pt,hpt⟩:∃ x,x=trimOf k1:=⟨_,rfl⟩
 have HTk:=Lib.hid (trimQ (txt k1) (by rw [txt_size];omega))
 rw [txt_data,← hpt] at HTk
 have HI:=Lib.hid (isThere_any 58 (txt k3) (by rw [txt_size];omega))
 rw [txt_data] at HI
 have HK:Hid (k1=(cutOf [[58]] b.data.toList).1∧k2=(cutOf [[58]] b.data.toList).2.1∧k3=(cutOf [[58]] b.data.toList).2.2∧tg=trimOf a.data.toList∧pt=trimOf k1):=⟨hk1,hk2,hk3,htg,hpt⟩
 clear hk1 hk2 hk3 htg hpt
 have e0:txt []=⟨#[]⟩:=rfl
 have E0:=Lib.hid e0
 clear e0
 go_enter Tryz.func74,Tryz.ntmps74
 go_wp2_with fail
 have hZ:ZeroP w (w.alloc (.cells #[.int .i64 0,.int .i64 0,.string ⟨#[]⟩,.string ⟨#[]⟩,.string ⟨#[]⟩,.string ⟨#[]⟩,.string ⟨#[]⟩,.string ⟨#[]⟩,.string ⟨#[]⟩,.slice none 0 0] 79)):=ZeroP.start w
 generalize w.alloc (.cells #[.int .i64 0,.int .i64 0,.string ⟨#[]⟩,.string ⟨#[]⟩,.string ⟨#[]⟩,.string ⟨#[]⟩,.string ⟨#[]⟩,.string ⟨#[]⟩,.string ⟨#[]⟩,.slice none 0 0] 79)=w0 at hZ ⊢
 refine (HTa.out _).mono ?_
 rintro e w1 ⟨rfl,hb1⟩
 have hN0:=(hZ.below hb1).own #[.int .i64 2,.int .i64 0,.string ⟨#[]⟩,.string ⟨#[]⟩,.string ⟨#[]⟩,.string (txt tg),.string ⟨#[]⟩,.string ⟨#[]⟩,.string ⟨#[]⟩,.slice none 0 0]
 have eb1:(txt tg).toList.isEmpty=decide (tg=[]):=by rw [txt_toL];cases tg <;> rfl
 obtain ⟨bt,hbt⟩:∃ x,x=decide (tg=[]):=⟨_,rfl⟩
 rw [← hbt] at eb1
 have HBt:=Lib.hid hbt
 obtain ⟨K,hK⟩:∃ K,K=w1.heap.size:=⟨_,rfl⟩
 clear hZ hb1 HTa hbt
 go_wp2_with fail
 have hsz:K+1=(w1.alloc (.cells #[.int .i64 2,.int .i64 0,.string ⟨#[]⟩,.string ⟨#[]⟩,.string ⟨#[]⟩,.string (txt tg),.string ⟨#[]⟩,.string ⟨#[]⟩,.string ⟨#[]⟩,.slice none 0 0] 79)).heap.size:=by rw [hK];simp
 rw [← hK] at hN0 ⊢
 generalize w1.alloc (.cells #[.int .i64 2,.int .i64 0,.string ⟨#[]⟩,.string ⟨#[]⟩,.string ⟨#[]⟩,.string (txt tg),.string ⟨#[]⟩,.string ⟨#[]⟩,.string ⟨#[]⟩,.slice none 0 0] 79)=W1 at hN0 hsz ⊢
 refine (HC1.out W1 (K+1) hsz).mono ?_
 rintro e w2 ⟨rfl,hb2⟩
 have hN1:=hN0.below hb2
 have HN1:=Lib.hid hN1
 obtain ⟨⟨c0,c1,c2,c3,c4,c5,c6,c7,c8,c9⟩,fk⟩:=hN1.cells
 clear hN0 hb2 hsz hK hN1 HC1
 obtain ⟨bb,eb⟩:∃ bb,(txt k2).toList.isEmpty=bb:=⟨_,rfl⟩
 go_upto_if 28 with fail
 go_cut [1,7] (fun bv ov wx=>∃ zb:ByteArray,bv=.string zb∧zb.data.toList=ruleRest b.data.toList∧zb.size≤1000000∧ov=.bool (ruleOk a.data.toList b.data.toList)∧TwoP w wx K (cellsN ⟨2,0,[],[],[],tg,rulePat b.data.toList,[],[],[]⟩))
 case first =>
  cases bb with
  | true =>
   have h0:k2=[]:=by rw [txt_toL] at eb;simpa using eb
   have HE:Hid (ruleRest b.data.toList=b.data.toList∧rulePat b.data.toList=[]∧(!bt)=ruleOk a.data.toList b.data.toList):=by
    obtain ⟨_,h2,_,h4,_⟩:=HK.out
    have e1:ruleRest b.data.toList=b.data.toList:=by unfold ruleRest;rw [← h2,if_pos h0]
    have e2:rulePat b.data.toList=[]:=by unfold rulePat;rw [← h2,if_pos h0]
    refine ⟨e1,e2,?_⟩
    unfold ruleOk
    rw [e1,e2,← h2,h0,HBt.out,← h4];simp
   clear h0
   go_wp2
   go_meet
   exact ⟨b,rfl,HE.out.1.symm,hb,by rw [HE.out.2.2],by rw [HE.out.2.1];exact HN1.out⟩
  | false =>
   have h0:k2≠[]:=by rw [txt_toL] at eb;simpa using eb
   obtain ⟨q2,hq2⟩:∃ x,x=(cutOf [[58]] k3).2.1:=⟨_,rfl⟩
   have HE:Hid (ruleRest b.data.toList=k3∧rulePat b.data.toList=pt∧(!(decide (pt=[]) || bt || !decide (q2=[])))=ruleOk a.data.toList b.data.toList):=by
    obtain ⟨h1,h2,h3,h4,h5⟩:=HK.out
    have e1:ruleRest b.data.toList=k3:=by unfold ruleRest;rw [← h2,if_neg h0,h3]
    have e2:rulePat b.data.toList=pt:=by unfold rulePat;rw [← h2,if_neg h0,← h1,h5]
    refine ⟨e1,e2,?_⟩
    unfold ruleOk
    rw [e1,e2,← h2,← hq2,HBt.out,← h4]
    by_cases h6:pt=[] <;> by_cases h7:q2=[] <;> simp [h0,h6,h7]
   rw [← hq2] at HI
   have eb2:(txt pt).toList.isEmpty=decide (pt=[]):=by rw [txt_toL];cases pt <;> rfl
   generalize decide (pt=[])=bp at eb2 HE
   generalize decide (q2=[])=bq at HI HE
   have h3l:k3.length≤1000000:=by omega
   clear h0 hq2 c0 c1 c2 c3 c4 c5 c6 c7 c8 c9 fk
   go_wp2_with fail
   refine (HTk.out _).mono ?_
   rintro e w3 ⟨rfl,hb3⟩
   have hN3:=HN1.out.below hb3
   obtain ⟨⟨c0,c1,c2,c3,c4,c5,c6,c7,c8,c9⟩,fk⟩:=hN3.cells
   have HN3:=Lib.hid (hN3.set 6 (.string (txt pt)))
   clear hN3 hb3
   cases bt <;> cases bp <;> cases bq <;> (
    go_wp2_with (first | (go_at_call 114;refine (HI.out _).mono ?_;rintro e w4 ⟨rfl,hb4⟩))
    go_meet
    first
     | exact ⟨txt k3,rfl,by rw [HE.out.1,txt_data],by rw [txt_size];exact h3l,by rw [← HE.out.2.2];rfl,by rw [HE.out.2.1];exact HN3.out⟩
     | exact ⟨txt k3,rfl,by rw [HE.out.1,txt_data],by rw [txt_size];exact h3l,by rw [← HE.out.2.2];rfl,by rw [HE.out.2.1];exact HN3.out.below hb4⟩)
 case rest =>
  obtain ⟨zb,rfl,hzb,hzs,rfl,hN⟩:=hcut
  clear c0 c1 c2 c3 c4 c5 c6 c7 c8 c9 fk HN1 HTk HI eb eb1 HBt
  have HC3:=Lib.hid (pcutOne 124 zb hzs)
  have hl2:=cut_len [[124]] zb.data.toList
  have hro:=rule_ok a.data.toList b.data.toList
  rw [← hzb] at hro
  obtain ⟨m1,hm1⟩:∃ x,x=(cutOf [[124]] zb.data.toList).1:=⟨_,rfl⟩
  obtain ⟨m2,hm2⟩:∃ x,x=(cutOf [[124]] zb.data.toList).2.1:=⟨_,rfl⟩
  obtain ⟨m3,hm3⟩:∃ x,x=(cutOf [[124]] zb.data.toList).2.2:=⟨_,rfl⟩
  rw [← hm1,← hm2,← hm3] at HC3
  rw [← hm1,← hm3] at hro
  rw [← hm1,← hm3,size_list] at hl2
  have HI:=Lib.hid (isThere_any 124 (txt m3) (by rw [txt_size];omega))
  rw [txt_data] at HI
  obtain ⟨q2,hq2⟩:∃ x,x=(cutOf [[124]] m3).2.1:=⟨_,rfl⟩
  rw [← hq2] at HI hro
  obtain ⟨y1,hy1⟩:∃ x,x=trimOf m1:=⟨_,rfl⟩
  obtain ⟨y3,hy3⟩:∃ x,x=trimOf m3:=⟨_,rfl⟩
  have HT1:=Lib.hid (trimQ (txt m1) (by rw [txt_size];omega))
  have HT3:=Lib.hid (trimQ (txt m3) (by rw [txt_size];omega))
  rw [txt_data,← hy1] at HT1
  rw [txt_data,← hy3] at HT3
  rw [← hy1,← hy3,← HK.out.2.2.2.1] at hro
  obtain ⟨pr,hpr⟩:∃ x,x=rulePat b.data.toList:=⟨_,rfl⟩
  rw [← hpr] at hro hN
  generalize ruleOk a.data.toList b.data.toList=ok at hro ⊢
  generalize decide (q2=[])=bq at HI hro
  have HP:Hid (∀ W,Below w.heap.size w W→OnePost (ruleL 0 a.data.toList b.data.toList) w (.returned (.tuple #[.agg (cellsN ⟨2,0,[],[],[],tg,pr,y1,y3,[]⟩),.bool (ok && bq)])) W):=fun W hW=>by
   refine ⟨_,by rw [hro];cases (ok && bq) <;> rfl,fun n hn=>?_,hW⟩
   rw [hro] at hn
   split at hn
   ·cases hn;rfl
   ·cases hn
  clear hzb hzs hl2 hro hm1 hm2 hm3 hq2 hy1 hy3 hpr HK
  go_wp2_with fail
  refine (HC3.out _ _ rfl).mono ?_
  rintro e w2 ⟨rfl,hb2⟩
  have hN2:=hN.below hb2
  clear hN hb2 HC3
  obtain ⟨⟨c0,c1,c2,c3,c4,c5,c6,c7,c8,c9⟩,fk⟩:=hN2.cells
  go_upto_region 10 with (first
   | (go_at_call 47;with_reducible refine (HT1.out _).mono ?_;rintro e w3 ⟨rfl,hb3⟩;obtain ⟨⟨c0,c1,c2,c3,c4,c5,c6,c7,c8,c9⟩,fk⟩:=(hN2.below hb3).cells)
   | (go_at_call 47;with_reducible refine (HT3.out _).mono ?_;rintro e w4 ⟨rfl,hb4⟩;obtain ⟨⟨c0,c1,c2,c3,c4,c5,c6,c7,c8,c9⟩,fk⟩:=((hN2.below hb3).below hb4).cells))
  have hN9:=(((hN2.below hb3).below hb4).set 7 (.string (txt y1))).set 8 (.string (txt y3))
  clear hN2 hb3 hb4 HT1 HT3
  generalize (w4.setCell ⟨K,7,none⟩ (.string (txt y1))).setCell ⟨K,8,none⟩ (.string (txt y3))=W9 at hN9 ⊢
  clear c0 c1 c2 c3 c4 c5 c6 c7 c8 c9 fk
  change TwoP w W9 K #[.int .i64 2,.int .i64 0,.string (txt []),.string (txt []),.string (txt []),.string (txt tg),.string (txt pr),.string (txt y1),.string (txt y3),.slice none 0 0] at hN9
  obtain ⟨⟨p0,p1,p2,p3,p4,p5,p6,p7,p8,p9⟩,pk⟩:=hN9.cells
  obtain ⟨hz,fz⟩:=hN9.zcells
  obtain ⟨z0,hz0⟩:=hz 0 (by omega)
  obtain ⟨z1,hz1⟩:=hz 1 (by omega)
  obtain ⟨z2,hz2⟩:=hz 2 (by omega)
  obtain ⟨z3,hz3⟩:=hz 3 (by omega)
  obtain ⟨z4,hz4⟩:=hz 4 (by omega)
  obtain ⟨z5,hz5⟩:=hz 5 (by omega)
  obtain ⟨z6,hz6⟩:=hz 6 (by omega)
  obtain ⟨z7,hz7⟩:=hz 7 (by omega)
  obtain ⟨z8,hz8⟩:=hz 8 (by omega)
  obtain ⟨z9,hz9⟩:=hz 9 (by omega)
  clear hz
  have HN9:=Lib.hid hN9
  clear hN9
  cases ok with
  | false =>
   clear HI
   go_region
   all_goals (
    go_wp2
    obtain ⟨hbk,r0,r1,r2,r3,r4,r5,r6,r7,r8,r9⟩:=HN9.out.finD (.int .i64 2) (.int .i64 0) (.string (txt [])) (.string (txt [])) (.string (txt [])) (.string (txt tg)) (.string (txt pr)) (.string (txt y1)) (.string (txt y3)) (.slice none 0 0)
    unfold doneN at hbk r0 r1 r2 r3 r4 r5 r6 r7 r8 r9
    exact bodyPost_ret (v:=.tuple #[.agg (cellsN ⟨2,0,[],[],[],tg,pr,y1,y3,[]⟩),.bool false]) (by simp [results,Tryz.results74,go_sem,r0,r1,r2,r3,r4,r5,r6,r7,r8,r9]) rfl (HP.out _ hbk))
  | true =>
   go_region_with (first
    | (go_at_call 114;refine (HI.out _).mono ?_;rintro e w5 ⟨rfl,hb5⟩;have HN5:=Lib.hid ((HN9.out.below (show Below W9.heap.size W9 W9.drew from drewN_below' (Below.refl _ _))).below hb5);obtain ⟨⟨g0,g1,g2,g3,g4,g5,g6,g7,g8,g9⟩,gk⟩:=HN5.out.cells;obtain ⟨hz,fz⟩:=HN5.out.zcells;obtain ⟨v0,hv0⟩:=hz 0 (by omega);obtain ⟨v1,hv1⟩:=hz 1 (by omega);obtain ⟨v2,hv2⟩:=hz 2 (by omega);obtain ⟨v3,hv3⟩:=hz 3 (by omega);obtain ⟨v4,hv4⟩:=hz 4 (by omega);obtain ⟨v5,hv5⟩:=hz 5 (by omega);obtain ⟨v6,hv6⟩:=hz 6 (by omega);obtain ⟨v7,hv7⟩:=hz 7 (by omega);obtain ⟨v8,hv8⟩:=hz 8 (by omega);obtain ⟨v9,hv9⟩:=hz 9 (by omega);clear hz))
   all_goals (
    go_wp2
    obtain ⟨hbk,r0,r1,r2,r3,r4,r5,r6,r7,r8,r9⟩:=HN5.out.fin (.int .i64 2) (.int .i64 0) (.string (txt [])) (.string (txt [])) (.string (txt [])) (.string (txt tg)) (.string (txt pr)) (.string (txt y1)) (.string (txt y3)) (.slice none 0 0)
    unfold doneN at hbk r0 r1 r2 r3 r4 r5 r6 r7 r8 r9
    exact bodyPost_ret (v:=.tuple #[.agg (cellsN ⟨2,0,[],[],[],tg,pr,y1,y3,[]⟩),.bool bq]) (by simp [results,Tryz.results74,go_sem,r0,r1,r2,r3,r4,r5,r6,r7,r8,r9]) rfl (HP.out _ hbk))
end Go.Proofs.YtmfjolmfbdbegaaGreatDoor

namespace Go.Proofs.YtmfjolmfbdbegaaGreatDoor
open Go.RowKit Go.Shelf
attribute [local go_sem] Oper.semAt_some
set_option maxRecDepth 100000 in
set_option maxHeartbeats 8000000 in
theorem assignOrRule_any (s:ByteArray) (hs:s.size≤1000000) (w:World):Calls Tryz.prog 51 #[.string s] w (OnePost (eqL 0 s.data.toList) w):=by
 have HC:=Lib.hid (pcutFive s hs)
 have hl:=cut_len signsL s.data.toList
 obtain ⟨k1,hk1⟩:∃ x,x=(cutOf signsL s.data.toList).1:=⟨_,rfl⟩
 obtain ⟨k2,hk2⟩:∃ x,x=(cutOf signsL s.data.toList).2.1:=⟨_,rfl⟩
 obtain ⟨k3,hk3⟩:∃ x,x=(cutOf signsL s.data.toList).2.2:=⟨_,rfl⟩
 rw [← hk1,← hk2,← hk3] at HC
 rw [← hk1,← hk3,size_list] at hl
 have HY:Hid (eqL 0 s.data.toList=if k2=[] then none else if k2=[58] then ruleL 0 k1 k3 else if nameB (trimOf k1) then some ⟨1,0,k2,trimOf k1,trimOf k3,[],[],[],[],[]⟩ else none):=by
  show _=_
  unfold eqL
  simp only
  rw [← hk1,← hk2,← hk3]
 have e0:txt []=⟨#[]⟩:=rfl
 have E0:=Lib.hid e0
 clear hk1 hk2 hk3 e0
 go_enter Tryz.func51,Tryz.ntmps51
 go_wp2_with fail
 have hZ:ZeroP w (w.alloc (.cells #[.int .i64 0,.int .i64 0,.string ⟨#[]⟩,.string ⟨#[]⟩,.string ⟨#[]⟩,.string ⟨#[]⟩,.string ⟨#[]⟩,.string ⟨#[]⟩,.string ⟨#[]⟩,.slice none 0 0] 79)):=ZeroP.start w
 have hsz:w.heap.size+1=(w.alloc (.cells #[.int .i64 0,.int .i64 0,.string ⟨#[]⟩,.string ⟨#[]⟩,.string ⟨#[]⟩,.string ⟨#[]⟩,.string ⟨#[]⟩,.string ⟨#[]⟩,.string ⟨#[]⟩,.slice none 0 0] 79)).heap.size:=by simp
 generalize w.alloc (.cells #[.int .i64 0,.int .i64 0,.string ⟨#[]⟩,.string ⟨#[]⟩,.string ⟨#[]⟩,.string ⟨#[]⟩,.string ⟨#[]⟩,.string ⟨#[]⟩,.string ⟨#[]⟩,.slice none 0 0] 79)=w0 at hZ hsz ⊢
 refine (HC.out w0 _ hsz).mono ?_
 rintro e w1 ⟨rfl,hb1⟩
 have hZ1:=hZ.below hb1
 clear hZ hb1 HC hsz
 by_cases h0:k2=[]
 ·have HN:Hid (eqL 0 s.data.toList=none):=by show _=_;rw [HY.out,if_pos h0]
  have eb:(txt k2).toList.isEmpty=true:=by rw [txt_toL,h0];rfl
  have HZ1:=Lib.hid hZ1
  obtain ⟨hz,fz⟩:=hZ1.cells
  obtain ⟨z0,hz0⟩:=hz 0 (by omega)
  obtain ⟨z1,hz1⟩:=hz 1 (by omega)
  obtain ⟨z2,hz2⟩:=hz 2 (by omega)
  obtain ⟨z3,hz3⟩:=hz 3 (by omega)
  obtain ⟨z4,hz4⟩:=hz 4 (by omega)
  obtain ⟨z5,hz5⟩:=hz 5 (by omega)
  obtain ⟨z6,hz6⟩:=hz 6 (by omega)
  obtain ⟨z7,hz7⟩:=hz 7 (by omega)
  obtain ⟨z8,hz8⟩:=hz 8 (by omega)
  obtain ⟨z9,hz9⟩:=hz 9 (by omega)
  clear hz
  clear h0 hZ1
  go_wp2
  obtain ⟨hbk,r0,r1,r2,r3,r4,r5,r6,r7,r8,r9⟩:=finP0 HZ1.out.1 HZ1.out.2 (.int .i64 0) (.int .i64 0) (.string ⟨#[]⟩) (.string ⟨#[]⟩) (.string ⟨#[]⟩) (.string ⟨#[]⟩) (.string ⟨#[]⟩) (.string ⟨#[]⟩) (.string ⟨#[]⟩) (.slice none 0 0)
  unfold doneN at hbk r0 r1 r2 r3 r4 r5 r6 r7 r8 r9
  exact bodyPost_ret (v:=.tuple #[.agg (cellsN zeroN),.bool false]) (by simp [results,Tryz.results51,go_sem,zeroN,E0.out,r0,r1,r2,r3,r4,r5,r6,r7,r8,r9]) rfl ⟨zeroN,by rw [HN.out];rfl,(fun n hn=>by rw [HN.out] at hn;cases hn),hbk⟩
 have eb:(txt k2).toList.isEmpty=false:=by rw [txt_toL];simpa using h0
 by_cases h58:k2=[58]
 ·have HN:Hid (eqL 0 s.data.toList=ruleL 0 k1 k3):=by show _=_;rw [HY.out,if_neg h0,if_pos h58]
  have eq:((txt k2).toList == [58])=true:=by rw [txt_toL,h58];decide
  have HRl:Hid (∀ W,Calls Tryz.prog 74 #[.string (txt k1),.string (txt k3)] W (OnePost (ruleL 0 k1 k3) W)):=fun W=>by
   have:=rule_any (txt k1) (txt k3) (by rw [txt_size];omega) (by rw [txt_size];omega) W
   rwa [txt_data,txt_data] at this
  clear h0 h58
  go_wp2_with fail
  refine (HRl.out _).mono ?_
  rintro e w2 ⟨nd,rfl,hnd,hb2⟩
  have hZ2:=hZ1.below hb2
  have HZ2:=Lib.hid hZ2
  obtain ⟨hz,fz⟩:=hZ2.cells
  obtain ⟨z0,hz0⟩:=hz 0 (by omega)
  obtain ⟨z1,hz1⟩:=hz 1 (by omega)
  obtain ⟨z2,hz2⟩:=hz 2 (by omega)
  obtain ⟨z3,hz3⟩:=hz 3 (by omega)
  obtain ⟨z4,hz4⟩:=hz 4 (by omega)
  obtain ⟨z5,hz5⟩:=hz 5 (by omega)
  obtain ⟨z6,hz6⟩:=hz 6 (by omega)
  obtain ⟨z7,hz7⟩:=hz 7 (by omega)
  obtain ⟨z8,hz8⟩:=hz 8 (by omega)
  obtain ⟨z9,hz9⟩:=hz 9 (by omega)
  clear hz
  clear hZ1 hZ2 hb2
  go_wp2
  obtain ⟨hbk,r0,r1,r2,r3,r4,r5,r6,r7,r8,r9⟩:=finP0 HZ2.out.1 HZ2.out.2 (.int .i64 nd.kind) (.int .i64 nd.no) (.string (txt nd.op)) (.string (txt nd.name)) (.string (txt nd.text)) (.string (txt nd.targets)) (.string (txt nd.pattern)) (.string (txt nd.inputs)) (.string (txt nd.order)) (.slice none 0 0)
  unfold doneN at hbk r0 r1 r2 r3 r4 r5 r6 r7 r8 r9
  exact bodyPost_ret (v:=.tuple #[.agg (cellsN nd),.bool (ruleL 0 k1 k3).isSome]) (by simp [results,Tryz.results51,go_sem,r0,r1,r2,r3,r4,r5,r6,r7,r8,r9]) rfl ⟨nd,by rw [HN.out],fun n hn=>hnd n (by rw [← HN.out];exact hn),hbk⟩
 have eq:((txt k2).toList == [58])=false:=by rw [txt_toL];exact beq_eq_false_iff_ne.2 h58
 obtain ⟨y1,hy1⟩:∃ x,x=trimOf k1:=⟨_,rfl⟩
 obtain ⟨y3,hy3⟩:∃ x,x=trimOf k3:=⟨_,rfl⟩
 have hyl:y1.length≤1000000:=by
  have:=trim_len k1
  rw [hy1];omega
 have HT1:=Lib.hid (trimQ (txt k1) (by rw [txt_size];omega))
 have HT3:=Lib.hid (trimQ (txt k3) (by rw [txt_size];omega))
 rw [txt_data,← hy1] at HT1
 rw [txt_data,← hy3] at HT3
 have HNm:Hid (∀ W,Calls Tryz.prog 50 #[.string (txt y1)] W fun e w'=>e=.returned (.bool (nameB y1))∧W=w'):=fun W=>by
  have:=name_any (txt y1) (by rw [txt_size];unfold maxLen;omega) W
  rwa [txt_data] at this
 have HN:Hid (eqL 0 s.data.toList=if nameB y1 then some ⟨1,0,k2,y1,y3,[],[],[],[],[]⟩ else none):=by show _=_;rw [HY.out,if_neg h0,if_neg h58,hy1,hy3]
 clear h0 h58 hy1 hy3
 generalize nameB y1=nb at HNm HN
 have HP:Hid (∀ W,Below w.heap.size w W→OnePost (eqL 0 s.data.toList) w (.returned (.tuple #[.agg (cellsN ⟨1,0,k2,y1,y3,[],[],[],[],[]⟩),.bool nb])) W):=fun W hW=>by
  refine ⟨⟨1,0,k2,y1,y3,[],[],[],[],[]⟩,by rw [HN.out];cases nb <;> rfl,fun n hn=>?_,hW⟩
  rw [HN.out] at hn
  split at hn
  ·cases hn;rfl
  ·cases hn
 go_upto_region 8 with (first
  | (go_at_call 47;with_reducible refine (HT1.out _).mono ?_;rintro e w2 ⟨rfl,hb2⟩)
  | (go_at_call 47;with_reducible refine (HT3.out _).mono ?_;rintro e w3 ⟨rfl,hb3⟩))
 have hN:=((hZ1.below hb2).below hb3).own #[.int .i64 1,.int .i64 0,.string (txt k2),.string (txt y1),.string (txt y3),.string ⟨#[]⟩,.string ⟨#[]⟩,.string ⟨#[]⟩,.string ⟨#[]⟩,.slice none 0 0]
 clear hZ1 hb2 hb3
 generalize w3.alloc (.cells #[.int .i64 1,.int .i64 0,.string (txt k2),.string (txt y1),.string (txt y3),.string ⟨#[]⟩,.string ⟨#[]⟩,.string ⟨#[]⟩,.string ⟨#[]⟩,.slice none 0 0] 79)=W at hN ⊢
 generalize w3.heap.size=K at hN ⊢
 obtain ⟨⟨c0,c1,c2,c3,c4,c5,c6,c7,c8,c9⟩,fk⟩:=hN.cells
 obtain ⟨hz,fz⟩:=hN.zcells
 obtain ⟨z0,hz0⟩:=hz 0 (by omega)
 obtain ⟨z1,hz1⟩:=hz 1 (by omega)
 obtain ⟨z2,hz2⟩:=hz 2 (by omega)
 obtain ⟨z3,hz3⟩:=hz 3 (by omega)
 obtain ⟨z4,hz4⟩:=hz 4 (by omega)
 obtain ⟨z5,hz5⟩:=hz 5 (by omega)
 obtain ⟨z6,hz6⟩:=hz 6 (by omega)
 obtain ⟨z7,hz7⟩:=hz 7 (by omega)
 obtain ⟨z8,hz8⟩:=hz 8 (by omega)
 obtain ⟨z9,hz9⟩:=hz 9 (by omega)
 clear hz
 have HNN:=Lib.hid hN
 clear hN HT1 HT3
 go_region_with (first | (go_at_call 50;refine (HNm.out _).mono ?_;rintro e w' ⟨rfl,rfl⟩))
 all_goals (
  go_wp2
  obtain ⟨hbk,r0,r1,r2,r3,r4,r5,r6,r7,r8,r9⟩:=HNN.out.finD (.int .i64 1) (.int .i64 0) (.string (txt k2)) (.string (txt y1)) (.string (txt y3)) (.string ⟨#[]⟩) (.string ⟨#[]⟩) (.string ⟨#[]⟩) (.string ⟨#[]⟩) (.slice none 0 0)
  unfold doneN at hbk r0 r1 r2 r3 r4 r5 r6 r7 r8 r9
  exact bodyPost_ret (v:=.tuple #[.agg (cellsN ⟨1,0,k2,y1,y3,[],[],[],[],[]⟩),.bool nb]) (by simp [results,Tryz.results51,go_sem,E0.out,r0,r1,r2,r3,r4,r5,r6,r7,r8,r9]) rfl (HP.out _ hbk))
end Go.Proofs.YtmfjolmfbdbegaaGreatDoor

namespace Go.Proofs.YtmfjolmfbdbegaaGreatDoor
open Go.RowKit Go.Shelf
attribute [local go_sem] Oper.semAt_some
theorem one_is (s:BS):oneL 0 s =
  if (fwd s).1=wIfeq∨(fwd s).1=wIfneq then ifL 0 (fwd s).1 (fwd s).2
  else if (fwd s).1=wIfdef∨(fwd s).1=wIfndef then (if nameB (fwd s).2 then some ⟨3,0,(fwd s).1,(fwd s).2,[],[],[],[],[],[]⟩ else none)
  else if (fwd s).1=wElse then (if (fwd s).2=[] then some ⟨4,0,[],[],[],[],[],[],[],[]⟩ else none)
  else if (fwd s).1=wEndif then (if (fwd s).2=[] then some ⟨5,0,[],[],[],[],[],[],[],[]⟩ else none)
  else if (fwd s).1=wIncl∨(fwd s).1=wIncl2 then (if (fwd s).2=[] then none else some ⟨6,0,(fwd s).1,[],(fwd s).2,[],[],[],[],[]⟩)
  else eqL 0 s:=by
 have hw:=words_trim s
 cases h:wordsL s with
 | nil =>
  rw [fwd_nil h]
  have h1:oneL 0 s=none:=by unfold oneL;rw [hw,h]
  have h2:eqL 0 s=none:=by
   rw [← eq_trim,trim_void.2 h];rfl
  rw [h1,h2]
  rfl
 | cons w ws =>
  have hr:=rest_none h
  rw [fwd_cons h]
  simp only
  unfold oneL
  rw [hw,h,eq_trim]
  simp only [hr]
theorem fwd_len (s:BS):(fwd s).2.length≤s.length:=by
 cases h:wordsL s with
 | nil=>rw [fwd_nil h];exact Nat.zero_le _
 | cons w ws =>
  rw [fwd_cons h]
  refine Nat.le_trans (trim_len _) ?_
  rw [List.length_drop]
  have:=trim_len s
  omega
set_option maxRecDepth 100000 in
set_option maxHeartbeats 16000000 in
theorem node_any (s:ByteArray) (hs:s.size≤1000000) (w:World):Calls Tryz.prog 29 #[.string s] w (OnePost (oneL 0 s.data.toList) w):=by
 have HF:=Lib.hid (firstWord_any s hs)
 have HAs:=Lib.hid (assignOrRule_any s hs)
 have hO:=one_is s.data.toList
 have hl:=fwd_len s.data.toList
 rw [size_list] at hl
 generalize (fwd s.data.toList).1=wd at HF hO
 generalize (fwd s.data.toList).2=rs at HF hO hl
 have HO:=Lib.hid hO
 have e0:txt []=⟨#[]⟩:=rfl
 have E0:=Lib.hid e0
 clear hO e0
 go_enter Tryz.func29,Tryz.ntmps29
 go_wp2_with fail
 have hZ:ZeroP w (w.alloc (.cells #[.int .i64 0,.int .i64 0,.string ⟨#[]⟩,.string ⟨#[]⟩,.string ⟨#[]⟩,.string ⟨#[]⟩,.string ⟨#[]⟩,.string ⟨#[]⟩,.string ⟨#[]⟩,.slice none 0 0] 79)):=ZeroP.start w
 generalize w.alloc (.cells #[.int .i64 0,.int .i64 0,.string ⟨#[]⟩,.string ⟨#[]⟩,.string ⟨#[]⟩,.string ⟨#[]⟩,.string ⟨#[]⟩,.string ⟨#[]⟩,.string ⟨#[]⟩,.slice none 0 0] 79)=w0 at hZ ⊢
 refine (HF.out _).mono ?_
 rintro e w1 ⟨rfl,hb1⟩
 have hZ1:=hZ.below hb1
 clear hZ hb1 HF
 by_cases hcl:wd=wIfeq
 ·
  have HY:Hid (oneL 0 s.data.toList=ifL 0 wd rs):=by
   show _=_
   rw [HO.out,hcl];rfl
  have HQ:Hid (∀ W,Calls Tryz.prog 49 #[.string (txt wd),.string (txt rs)] W (OnePost (ifL 0 wd rs) W)):=fun W=>by
   have:=compared_any (txt wd) (txt rs) (by rw [txt_size];omega) W
   rwa [txt_data,txt_data] at this
  have q0:((txt wd).toList == [105,102,101,113])=true:=by rw [txt_toL,hcl];decide
  have q1:((txt wd).toList == [105,102,110,101,113])=false:=by rw [txt_toL,hcl];decide
  have q2:((txt wd).toList == [105,102,100,101,102])=false:=by rw [txt_toL,hcl];decide
  have q3:((txt wd).toList == [105,102,110,100,101,102])=false:=by rw [txt_toL,hcl];decide
  have q4:((txt wd).toList == [101,108,115,101])=false:=by rw [txt_toL,hcl];decide
  have q5:((txt wd).toList == [101,110,100,105,102])=false:=by rw [txt_toL,hcl];decide
  have q6:((txt wd).toList == [105,110,99,108,117,100,101])=false:=by rw [txt_toL,hcl];decide
  have q7:((txt wd).toList == [45,105,110,99,108,117,100,101])=false:=by rw [txt_toL,hcl];decide
  have HCl:=Lib.hid hcl
  clear hcl HO HAs
  go_wp2_with fail
  refine (HQ.out _).mono ?_
  rintro e w2 ⟨nd,rfl,hnd,hb2⟩
  have hZ2:=hZ1.below hb2
  have HZ2:=Lib.hid hZ2
  obtain ⟨hz,fz⟩:=hZ2.cells
  obtain ⟨z0,hz0⟩:=hz 0 (by omega)
  obtain ⟨z1,hz1⟩:=hz 1 (by omega)
  obtain ⟨z2,hz2⟩:=hz 2 (by omega)
  obtain ⟨z3,hz3⟩:=hz 3 (by omega)
  obtain ⟨z4,hz4⟩:=hz 4 (by omega)
  obtain ⟨z5,hz5⟩:=hz 5 (by omega)
  obtain ⟨z6,hz6⟩:=hz 6 (by omega)
  obtain ⟨z7,hz7⟩:=hz 7 (by omega)
  obtain ⟨z8,hz8⟩:=hz 8 (by omega)
  obtain ⟨z9,hz9⟩:=hz 9 (by omega)
  clear hz
  clear hZ1 hZ2 hb2
  go_wp2
  obtain ⟨hbk,r0,r1,r2,r3,r4,r5,r6,r7,r8,r9⟩:=finP0 HZ2.out.1 HZ2.out.2 (.int .i64 nd.kind) (.int .i64 nd.no) (.string (txt nd.op)) (.string (txt nd.name)) (.string (txt nd.text)) (.string (txt nd.targets)) (.string (txt nd.pattern)) (.string (txt nd.inputs)) (.string (txt nd.order)) (.slice none 0 0)
  unfold doneN at hbk r0 r1 r2 r3 r4 r5 r6 r7 r8 r9
  exact bodyPost_ret (v:=.tuple #[.agg (cellsN nd),.bool (ifL 0 wd rs).isSome]) (by simp [results,Tryz.results29,go_sem,r0,r1,r2,r3,r4,r5,r6,r7,r8,r9]) rfl ⟨nd,by rw [HY.out],fun n hn=>hnd n (by rw [← HY.out];exact hn),hbk⟩
 have n0:wd≠wIfeq:=hcl
 clear hcl
 by_cases hcl:wd=wIfneq
 ·
  have HY:Hid (oneL 0 s.data.toList=ifL 0 wd rs):=by
   show _=_
   rw [HO.out,hcl];rfl
  have HQ:Hid (∀ W,Calls Tryz.prog 49 #[.string (txt wd),.string (txt rs)] W (OnePost (ifL 0 wd rs) W)):=fun W=>by
   have:=compared_any (txt wd) (txt rs) (by rw [txt_size];omega) W
   rwa [txt_data,txt_data] at this
  have q0:((txt wd).toList == [105,102,101,113])=false:=by rw [txt_toL,hcl];decide
  have q1:((txt wd).toList == [105,102,110,101,113])=true:=by rw [txt_toL,hcl];decide
  have q2:((txt wd).toList == [105,102,100,101,102])=false:=by rw [txt_toL,hcl];decide
  have q3:((txt wd).toList == [105,102,110,100,101,102])=false:=by rw [txt_toL,hcl];decide
  have q4:((txt wd).toList == [101,108,115,101])=false:=by rw [txt_toL,hcl];decide
  have q5:((txt wd).toList == [101,110,100,105,102])=false:=by rw [txt_toL,hcl];decide
  have q6:((txt wd).toList == [105,110,99,108,117,100,101])=false:=by rw [txt_toL,hcl];decide
  have q7:((txt wd).toList == [45,105,110,99,108,117,100,101])=false:=by rw [txt_toL,hcl];decide
  have HCl:=Lib.hid hcl
  clear hcl HO HAs
  go_wp2_with fail
  refine (HQ.out _).mono ?_
  rintro e w2 ⟨nd,rfl,hnd,hb2⟩
  have hZ2:=hZ1.below hb2
  have HZ2:=Lib.hid hZ2
  obtain ⟨hz,fz⟩:=hZ2.cells
  obtain ⟨z0,hz0⟩:=hz 0 (by omega)
  obtain ⟨z1,hz1⟩:=hz 1 (by omega)
  obtain ⟨z2,hz2⟩:=hz 2 (by omega)
  obtain ⟨z3,hz3⟩:=hz 3 (by omega)
  obtain ⟨z4,hz4⟩:=hz 4 (by omega)
  obtain ⟨z5,hz5⟩:=hz 5 (by omega)
  obtain ⟨z6,hz6⟩:=hz 6 (by omega)
  obtain ⟨z7,hz7⟩:=hz 7 (by omega)
  obtain ⟨z8,hz8⟩:=hz 8 (by omega)
  obtain ⟨z9,hz9⟩:=hz 9 (by omega)
  clear hz
  clear hZ1 hZ2 hb2
  go_wp2
  obtain ⟨hbk,r0,r1,r2,r3,r4,r5,r6,r7,r8,r9⟩:=finP0 HZ2.out.1 HZ2.out.2 (.int .i64 nd.kind) (.int .i64 nd.no) (.string (txt nd.op)) (.string (txt nd.name)) (.string (txt nd.text)) (.string (txt nd.targets)) (.string (txt nd.pattern)) (.string (txt nd.inputs)) (.string (txt nd.order)) (.slice none 0 0)
  unfold doneN at hbk r0 r1 r2 r3 r4 r5 r6 r7 r8 r9
  exact bodyPost_ret (v:=.tuple #[.agg (cellsN nd),.bool (ifL 0 wd rs).isSome]) (by simp [results,Tryz.results29,go_sem,r0,r1,r2,r3,r4,r5,r6,r7,r8,r9]) rfl ⟨nd,by rw [HY.out],fun n hn=>hnd n (by rw [← HY.out];exact hn),hbk⟩
 have n1:wd≠wIfneq:=hcl
 clear hcl
 by_cases hcl:wd=wIfdef
 ·
  have HY:Hid (oneL 0 s.data.toList=if nameB rs then some ⟨3,0,wd,rs,[],[],[],[],[],[]⟩ else none):=by
   show _=_
   rw [HO.out,hcl];rfl
  have HNm:Hid (∀ W,Calls Tryz.prog 50 #[.string (txt rs)] W fun e w'=>e=.returned (.bool (nameB rs))∧W=w'):=fun W=>by
   have:=name_any (txt rs) (by rw [txt_size];unfold maxLen;omega) W
   rwa [txt_data] at this
  have q0:((txt wd).toList == [105,102,101,113])=false:=by rw [txt_toL,hcl];decide
  have q1:((txt wd).toList == [105,102,110,101,113])=false:=by rw [txt_toL,hcl];decide
  have q2:((txt wd).toList == [105,102,100,101,102])=true:=by rw [txt_toL,hcl];decide
  have q3:((txt wd).toList == [105,102,110,100,101,102])=false:=by rw [txt_toL,hcl];decide
  have q4:((txt wd).toList == [101,108,115,101])=false:=by rw [txt_toL,hcl];decide
  have q5:((txt wd).toList == [101,110,100,105,102])=false:=by rw [txt_toL,hcl];decide
  have q6:((txt wd).toList == [105,110,99,108,117,100,101])=false:=by rw [txt_toL,hcl];decide
  have q7:((txt wd).toList == [45,105,110,99,108,117,100,101])=false:=by rw [txt_toL,hcl];decide
  have HCl:=Lib.hid hcl
  clear hcl HO HAs
  generalize nameB rs=nb at HNm HY
  have HP:Hid (∀ W,Below w.heap.size w W→OnePost (oneL 0 s.data.toList) w (.returned (.tuple #[.agg (cellsN ⟨3,0,wd,rs,[],[],[],[],[],[]⟩),.bool nb])) W):=fun W hW=>by
   refine ⟨⟨3,0,wd,rs,[],[],[],[],[],[]⟩,by rw [HY.out];cases nb <;> rfl,fun n hn=>?_,hW⟩
   rw [HY.out] at hn
   split at hn
   ·cases hn;rfl
   ·cases hn
  have HZ1:=Lib.hid hZ1
  obtain ⟨hz,fz⟩:=hZ1.cells
  obtain ⟨z0,hz0⟩:=hz 0 (by omega)
  obtain ⟨z1,hz1⟩:=hz 1 (by omega)
  obtain ⟨z2,hz2⟩:=hz 2 (by omega)
  obtain ⟨z3,hz3⟩:=hz 3 (by omega)
  obtain ⟨z4,hz4⟩:=hz 4 (by omega)
  obtain ⟨z5,hz5⟩:=hz 5 (by omega)
  obtain ⟨z6,hz6⟩:=hz 6 (by omega)
  obtain ⟨z7,hz7⟩:=hz 7 (by omega)
  obtain ⟨z8,hz8⟩:=hz 8 (by omega)
  obtain ⟨z9,hz9⟩:=hz 9 (by omega)
  clear hz
  clear hZ1
  go_wp2_with (first | (go_at_call 50;refine (HNm.out _).mono ?_;rintro e w' ⟨rfl,rfl⟩))
  obtain ⟨hbk,r0,r1,r2,r3,r4,r5,r6,r7,r8,r9⟩:=finP0 HZ1.out.1 HZ1.out.2 (.int .i64 3) (.int .i64 0) (.string (txt wd)) (.string (txt rs)) (.string ⟨#[]⟩) (.string ⟨#[]⟩) (.string ⟨#[]⟩) (.string ⟨#[]⟩) (.string ⟨#[]⟩) (.slice none 0 0)
  unfold doneN at hbk r0 r1 r2 r3 r4 r5 r6 r7 r8 r9
  exact bodyPost_ret (v:=.tuple #[.agg (cellsN ⟨3,0,wd,rs,[],[],[],[],[],[]⟩),.bool nb]) (by simp [results,Tryz.results29,go_sem,E0.out,r0,r1,r2,r3,r4,r5,r6,r7,r8,r9]) rfl (HP.out _ hbk)
 have n2:wd≠wIfdef:=hcl
 clear hcl
 by_cases hcl:wd=wIfndef
 ·
  have HY:Hid (oneL 0 s.data.toList=if nameB rs then some ⟨3,0,wd,rs,[],[],[],[],[],[]⟩ else none):=by
   show _=_
   rw [HO.out,hcl];rfl
  have HNm:Hid (∀ W,Calls Tryz.prog 50 #[.string (txt rs)] W fun e w'=>e=.returned (.bool (nameB rs))∧W=w'):=fun W=>by
   have:=name_any (txt rs) (by rw [txt_size];unfold maxLen;omega) W
   rwa [txt_data] at this
  have q0:((txt wd).toList == [105,102,101,113])=false:=by rw [txt_toL,hcl];decide
  have q1:((txt wd).toList == [105,102,110,101,113])=false:=by rw [txt_toL,hcl];decide
  have q2:((txt wd).toList == [105,102,100,101,102])=false:=by rw [txt_toL,hcl];decide
  have q3:((txt wd).toList == [105,102,110,100,101,102])=true:=by rw [txt_toL,hcl];decide
  have q4:((txt wd).toList == [101,108,115,101])=false:=by rw [txt_toL,hcl];decide
  have q5:((txt wd).toList == [101,110,100,105,102])=false:=by rw [txt_toL,hcl];decide
  have q6:((txt wd).toList == [105,110,99,108,117,100,101])=false:=by rw [txt_toL,hcl];decide
  have q7:((txt wd).toList == [45,105,110,99,108,117,100,101])=false:=by rw [txt_toL,hcl];decide
  have HCl:=Lib.hid hcl
  clear hcl HO HAs
  generalize nameB rs=nb at HNm HY
  have HP:Hid (∀ W,Below w.heap.size w W→OnePost (oneL 0 s.data.toList) w (.returned (.tuple #[.agg (cellsN ⟨3,0,wd,rs,[],[],[],[],[],[]⟩),.bool nb])) W):=fun W hW=>by
   refine ⟨⟨3,0,wd,rs,[],[],[],[],[],[]⟩,by rw [HY.out];cases nb <;> rfl,fun n hn=>?_,hW⟩
   rw [HY.out] at hn
   split at hn
   ·cases hn;rfl
   ·cases hn
  have HZ1:=Lib.hid hZ1
  obtain ⟨hz,fz⟩:=hZ1.cells
  obtain ⟨z0,hz0⟩:=hz 0 (by omega)
  obtain ⟨z1,hz1⟩:=hz 1 (by omega)
  obtain ⟨z2,hz2⟩:=hz 2 (by omega)
  obtain ⟨z3,hz3⟩:=hz 3 (by omega)
  obtain ⟨z4,hz4⟩:=hz 4 (by omega)
  obtain ⟨z5,hz5⟩:=hz 5 (by omega)
  obtain ⟨z6,hz6⟩:=hz 6 (by omega)
  obtain ⟨z7,hz7⟩:=hz 7 (by omega)
  obtain ⟨z8,hz8⟩:=hz 8 (by omega)
  obtain ⟨z9,hz9⟩:=hz 9 (by omega)
  clear hz
  clear hZ1
  go_wp2_with (first | (go_at_call 50;refine (HNm.out _).mono ?_;rintro e w' ⟨rfl,rfl⟩))
  obtain ⟨hbk,r0,r1,r2,r3,r4,r5,r6,r7,r8,r9⟩:=finP0 HZ1.out.1 HZ1.out.2 (.int .i64 3) (.int .i64 0) (.string (txt wd)) (.string (txt rs)) (.string ⟨#[]⟩) (.string ⟨#[]⟩) (.string ⟨#[]⟩) (.string ⟨#[]⟩) (.string ⟨#[]⟩) (.slice none 0 0)
  unfold doneN at hbk r0 r1 r2 r3 r4 r5 r6 r7 r8 r9
  exact bodyPost_ret (v:=.tuple #[.agg (cellsN ⟨3,0,wd,rs,[],[],[],[],[],[]⟩),.bool nb]) (by simp [results,Tryz.results29,go_sem,E0.out,r0,r1,r2,r3,r4,r5,r6,r7,r8,r9]) rfl (HP.out _ hbk)
 have n3:wd≠wIfndef:=hcl
 clear hcl
 by_cases hcl:wd=wElse
 ·
  have HY:Hid (oneL 0 s.data.toList=if decide (rs=[]) then some ⟨4,0,[],[],[],[],[],[],[],[]⟩ else none):=by
   show _=_
   rw [HO.out,hcl]
   show (if rs=[] then some (⟨4,0,[],[],[],[],[],[],[],[]⟩:Nd) else none)=_
   by_cases h:rs=[] <;> simp [h]
  have eb:(txt rs).toList.isEmpty=decide (rs=[]):=by rw [txt_toL];cases rs <;> rfl
  have q0:((txt wd).toList == [105,102,101,113])=false:=by rw [txt_toL,hcl];decide
  have q1:((txt wd).toList == [105,102,110,101,113])=false:=by rw [txt_toL,hcl];decide
  have q2:((txt wd).toList == [105,102,100,101,102])=false:=by rw [txt_toL,hcl];decide
  have q3:((txt wd).toList == [105,102,110,100,101,102])=false:=by rw [txt_toL,hcl];decide
  have q4:((txt wd).toList == [101,108,115,101])=true:=by rw [txt_toL,hcl];decide
  have q5:((txt wd).toList == [101,110,100,105,102])=false:=by rw [txt_toL,hcl];decide
  have q6:((txt wd).toList == [105,110,99,108,117,100,101])=false:=by rw [txt_toL,hcl];decide
  have q7:((txt wd).toList == [45,105,110,99,108,117,100,101])=false:=by rw [txt_toL,hcl];decide
  have HCl:=Lib.hid hcl
  clear hcl HO HAs
  generalize decide (rs=[])=nb at eb HY
  have HP:Hid (∀ W,Below w.heap.size w W→OnePost (oneL 0 s.data.toList) w (.returned (.tuple #[.agg (cellsN ⟨4,0,[],[],[],[],[],[],[],[]⟩),.bool nb])) W):=fun W hW=>by
   refine ⟨⟨4,0,[],[],[],[],[],[],[],[]⟩,by rw [HY.out];cases nb <;> rfl,fun n hn=>?_,hW⟩
   rw [HY.out] at hn
   split at hn
   ·cases hn;rfl
   ·cases hn
  have HZ1:=Lib.hid hZ1
  obtain ⟨hz,fz⟩:=hZ1.cells
  obtain ⟨z0,hz0⟩:=hz 0 (by omega)
  obtain ⟨z1,hz1⟩:=hz 1 (by omega)
  obtain ⟨z2,hz2⟩:=hz 2 (by omega)
  obtain ⟨z3,hz3⟩:=hz 3 (by omega)
  obtain ⟨z4,hz4⟩:=hz 4 (by omega)
  obtain ⟨z5,hz5⟩:=hz 5 (by omega)
  obtain ⟨z6,hz6⟩:=hz 6 (by omega)
  obtain ⟨z7,hz7⟩:=hz 7 (by omega)
  obtain ⟨z8,hz8⟩:=hz 8 (by omega)
  obtain ⟨z9,hz9⟩:=hz 9 (by omega)
  clear hz
  clear hZ1
  go_wp2
  obtain ⟨hbk,r0,r1,r2,r3,r4,r5,r6,r7,r8,r9⟩:=finP0 HZ1.out.1 HZ1.out.2 (.int .i64 4) (.int .i64 0) (.string ⟨#[]⟩) (.string ⟨#[]⟩) (.string ⟨#[]⟩) (.string ⟨#[]⟩) (.string ⟨#[]⟩) (.string ⟨#[]⟩) (.string ⟨#[]⟩) (.slice none 0 0)
  unfold doneN at hbk r0 r1 r2 r3 r4 r5 r6 r7 r8 r9
  exact bodyPost_ret (v:=.tuple #[.agg (cellsN ⟨4,0,[],[],[],[],[],[],[],[]⟩),.bool nb]) (by simp [results,Tryz.results29,go_sem,E0.out,r0,r1,r2,r3,r4,r5,r6,r7,r8,r9]) rfl (HP.out _ hbk)
 have n4:wd≠wElse:=hcl
 clear hcl
 by_cases hcl:wd=wEndif
 ·
  have HY:Hid (oneL 0 s.data.toList=if decide (rs=[]) then some ⟨5,0,[],[],[],[],[],[],[],[]⟩ else none):=by
   show _=_
   rw [HO.out,hcl]
   show (if rs=[] then some (⟨5,0,[],[],[],[],[],[],[],[]⟩:Nd) else none)=_
   by_cases h:rs=[] <;> simp [h]
  have eb:(txt rs).toList.isEmpty=decide (rs=[]):=by rw [txt_toL];cases rs <;> rfl
  have q0:((txt wd).toList == [105,102,101,113])=false:=by rw [txt_toL,hcl];decide
  have q1:((txt wd).toList == [105,102,110,101,113])=false:=by rw [txt_toL,hcl];decide
  have q2:((txt wd).toList == [105,102,100,101,102])=false:=by rw [txt_toL,hcl];decide
  have q3:((txt wd).toList == [105,102,110,100,101,102])=false:=by rw [txt_toL,hcl];decide
  have q4:((txt wd).toList == [101,108,115,101])=false:=by rw [txt_toL,hcl];decide
  have q5:((txt wd).toList == [101,110,100,105,102])=true:=by rw [txt_toL,hcl];decide
  have q6:((txt wd).toList == [105,110,99,108,117,100,101])=false:=by rw [txt_toL,hcl];decide
  have q7:((txt wd).toList == [45,105,110,99,108,117,100,101])=false:=by rw [txt_toL,hcl];decide
  have HCl:=Lib.hid hcl
  clear hcl HO HAs
  generalize decide (rs=[])=nb at eb HY
  have HP:Hid (∀ W,Below w.heap.size w W→OnePost (oneL 0 s.data.toList) w (.returned (.tuple #[.agg (cellsN ⟨5,0,[],[],[],[],[],[],[],[]⟩),.bool nb])) W):=fun W hW=>by
   refine ⟨⟨5,0,[],[],[],[],[],[],[],[]⟩,by rw [HY.out];cases nb <;> rfl,fun n hn=>?_,hW⟩
   rw [HY.out] at hn
   split at hn
   ·cases hn;rfl
   ·cases hn
  have HZ1:=Lib.hid hZ1
  obtain ⟨hz,fz⟩:=hZ1.cells
  obtain ⟨z0,hz0⟩:=hz 0 (by omega)
  obtain ⟨z1,hz1⟩:=hz 1 (by omega)
  obtain ⟨z2,hz2⟩:=hz 2 (by omega)
  obtain ⟨z3,hz3⟩:=hz 3 (by omega)
  obtain ⟨z4,hz4⟩:=hz 4 (by omega)
  obtain ⟨z5,hz5⟩:=hz 5 (by omega)
  obtain ⟨z6,hz6⟩:=hz 6 (by omega)
  obtain ⟨z7,hz7⟩:=hz 7 (by omega)
  obtain ⟨z8,hz8⟩:=hz 8 (by omega)
  obtain ⟨z9,hz9⟩:=hz 9 (by omega)
  clear hz
  clear hZ1
  go_wp2
  obtain ⟨hbk,r0,r1,r2,r3,r4,r5,r6,r7,r8,r9⟩:=finP0 HZ1.out.1 HZ1.out.2 (.int .i64 5) (.int .i64 0) (.string ⟨#[]⟩) (.string ⟨#[]⟩) (.string ⟨#[]⟩) (.string ⟨#[]⟩) (.string ⟨#[]⟩) (.string ⟨#[]⟩) (.string ⟨#[]⟩) (.slice none 0 0)
  unfold doneN at hbk r0 r1 r2 r3 r4 r5 r6 r7 r8 r9
  exact bodyPost_ret (v:=.tuple #[.agg (cellsN ⟨5,0,[],[],[],[],[],[],[],[]⟩),.bool nb]) (by simp [results,Tryz.results29,go_sem,E0.out,r0,r1,r2,r3,r4,r5,r6,r7,r8,r9]) rfl (HP.out _ hbk)
 have n5:wd≠wEndif:=hcl
 clear hcl
 by_cases hcl:wd=wIncl
 ·
  have HY:Hid (oneL 0 s.data.toList=if (!decide (rs=[])) then some ⟨6,0,wd,[],rs,[],[],[],[],[]⟩ else none):=by
   show _=_
   rw [HO.out,hcl]
   show (if rs=[] then none else some (⟨6,0,wIncl,[],rs,[],[],[],[],[]⟩:Nd))=_
   by_cases h:rs=[] <;> simp [h]
  have eb:(txt rs).toList.isEmpty=decide (rs=[]):=by rw [txt_toL];cases rs <;> rfl
  have q0:((txt wd).toList == [105,102,101,113])=false:=by rw [txt_toL,hcl];decide
  have q1:((txt wd).toList == [105,102,110,101,113])=false:=by rw [txt_toL,hcl];decide
  have q2:((txt wd).toList == [105,102,100,101,102])=false:=by rw [txt_toL,hcl];decide
  have q3:((txt wd).toList == [105,102,110,100,101,102])=false:=by rw [txt_toL,hcl];decide
  have q4:((txt wd).toList == [101,108,115,101])=false:=by rw [txt_toL,hcl];decide
  have q5:((txt wd).toList == [101,110,100,105,102])=false:=by rw [txt_toL,hcl];decide
  have q6:((txt wd).toList == [105,110,99,108,117,100,101])=true:=by rw [txt_toL,hcl];decide
  have q7:((txt wd).toList == [45,105,110,99,108,117,100,101])=false:=by rw [txt_toL,hcl];decide
  have HCl:=Lib.hid hcl
  clear hcl HO HAs
  generalize decide (rs=[])=nb at eb HY
  have HP:Hid (∀ W,Below w.heap.size w W→OnePost (oneL 0 s.data.toList) w (.returned (.tuple #[.agg (cellsN ⟨6,0,wd,[],rs,[],[],[],[],[]⟩),.bool (!nb)])) W):=fun W hW=>by
   refine ⟨⟨6,0,wd,[],rs,[],[],[],[],[]⟩,by rw [HY.out];cases nb <;> rfl,fun n hn=>?_,hW⟩
   rw [HY.out] at hn
   split at hn
   ·cases hn;rfl
   ·cases hn
  have HZ1:=Lib.hid hZ1
  obtain ⟨hz,fz⟩:=hZ1.cells
  obtain ⟨z0,hz0⟩:=hz 0 (by omega)
  obtain ⟨z1,hz1⟩:=hz 1 (by omega)
  obtain ⟨z2,hz2⟩:=hz 2 (by omega)
  obtain ⟨z3,hz3⟩:=hz 3 (by omega)
  obtain ⟨z4,hz4⟩:=hz 4 (by omega)
  obtain ⟨z5,hz5⟩:=hz 5 (by omega)
  obtain ⟨z6,hz6⟩:=hz 6 (by omega)
  obtain ⟨z7,hz7⟩:=hz 7 (by omega)
  obtain ⟨z8,hz8⟩:=hz 8 (by omega)
  obtain ⟨z9,hz9⟩:=hz 9 (by omega)
  clear hz
  clear hZ1
  go_wp2
  obtain ⟨hbk,r0,r1,r2,r3,r4,r5,r6,r7,r8,r9⟩:=finP0 HZ1.out.1 HZ1.out.2 (.int .i64 6) (.int .i64 0) (.string (txt wd)) (.string ⟨#[]⟩) (.string (txt rs)) (.string ⟨#[]⟩) (.string ⟨#[]⟩) (.string ⟨#[]⟩) (.string ⟨#[]⟩) (.slice none 0 0)
  unfold doneN at hbk r0 r1 r2 r3 r4 r5 r6 r7 r8 r9
  exact bodyPost_ret (v:=.tuple #[.agg (cellsN ⟨6,0,wd,[],rs,[],[],[],[],[]⟩),.bool (!nb)]) (by simp [results,Tryz.results29,go_sem,E0.out,r0,r1,r2,r3,r4,r5,r6,r7,r8,r9]) rfl (HP.out _ hbk)
 have n6:wd≠wIncl:=hcl
 clear hcl
 by_cases hcl:wd=wIncl2
 ·
  have HY:Hid (oneL 0 s.data.toList=if (!decide (rs=[])) then some ⟨6,0,wd,[],rs,[],[],[],[],[]⟩ else none):=by
   show _=_
   rw [HO.out,hcl]
   show (if rs=[] then none else some (⟨6,0,wIncl2,[],rs,[],[],[],[],[]⟩:Nd))=_
   by_cases h:rs=[] <;> simp [h]
  have eb:(txt rs).toList.isEmpty=decide (rs=[]):=by rw [txt_toL];cases rs <;> rfl
  have q0:((txt wd).toList == [105,102,101,113])=false:=by rw [txt_toL,hcl];decide
  have q1:((txt wd).toList == [105,102,110,101,113])=false:=by rw [txt_toL,hcl];decide
  have q2:((txt wd).toList == [105,102,100,101,102])=false:=by rw [txt_toL,hcl];decide
  have q3:((txt wd).toList == [105,102,110,100,101,102])=false:=by rw [txt_toL,hcl];decide
  have q4:((txt wd).toList == [101,108,115,101])=false:=by rw [txt_toL,hcl];decide
  have q5:((txt wd).toList == [101,110,100,105,102])=false:=by rw [txt_toL,hcl];decide
  have q6:((txt wd).toList == [105,110,99,108,117,100,101])=false:=by rw [txt_toL,hcl];decide
  have q7:((txt wd).toList == [45,105,110,99,108,117,100,101])=true:=by rw [txt_toL,hcl];decide
  have HCl:=Lib.hid hcl
  clear hcl HO HAs
  generalize decide (rs=[])=nb at eb HY
  have HP:Hid (∀ W,Below w.heap.size w W→OnePost (oneL 0 s.data.toList) w (.returned (.tuple #[.agg (cellsN ⟨6,0,wd,[],rs,[],[],[],[],[]⟩),.bool (!nb)])) W):=fun W hW=>by
   refine ⟨⟨6,0,wd,[],rs,[],[],[],[],[]⟩,by rw [HY.out];cases nb <;> rfl,fun n hn=>?_,hW⟩
   rw [HY.out] at hn
   split at hn
   ·cases hn;rfl
   ·cases hn
  have HZ1:=Lib.hid hZ1
  obtain ⟨hz,fz⟩:=hZ1.cells
  obtain ⟨z0,hz0⟩:=hz 0 (by omega)
  obtain ⟨z1,hz1⟩:=hz 1 (by omega)
  obtain ⟨z2,hz2⟩:=hz 2 (by omega)
  obtain ⟨z3,hz3⟩:=hz 3 (by omega)
  obtain ⟨z4,hz4⟩:=hz 4 (by omega)
  obtain ⟨z5,hz5⟩:=hz 5 (by omega)
  obtain ⟨z6,hz6⟩:=hz 6 (by omega)
  obtain ⟨z7,hz7⟩:=hz 7 (by omega)
  obtain ⟨z8,hz8⟩:=hz 8 (by omega)
  obtain ⟨z9,hz9⟩:=hz 9 (by omega)
  clear hz
  clear hZ1
  go_wp2
  obtain ⟨hbk,r0,r1,r2,r3,r4,r5,r6,r7,r8,r9⟩:=finP0 HZ1.out.1 HZ1.out.2 (.int .i64 6) (.int .i64 0) (.string (txt wd)) (.string ⟨#[]⟩) (.string (txt rs)) (.string ⟨#[]⟩) (.string ⟨#[]⟩) (.string ⟨#[]⟩) (.string ⟨#[]⟩) (.slice none 0 0)
  unfold doneN at hbk r0 r1 r2 r3 r4 r5 r6 r7 r8 r9
  exact bodyPost_ret (v:=.tuple #[.agg (cellsN ⟨6,0,wd,[],rs,[],[],[],[],[]⟩),.bool (!nb)]) (by simp [results,Tryz.results29,go_sem,E0.out,r0,r1,r2,r3,r4,r5,r6,r7,r8,r9]) rfl (HP.out _ hbk)
 have n7:wd≠wIncl2:=hcl
 clear hcl
 have HY:Hid (oneL 0 s.data.toList=eqL 0 s.data.toList):=by
  show _=_
  rw [HO.out,if_neg (fun h=>h.elim n0 n1),if_neg (fun h=>h.elim n2 n3),if_neg n4,if_neg n5,if_neg (fun h=>h.elim n6 n7)]
 have HQ:=HAs
 have q0:((txt wd).toList == [105,102,101,113])=false:=by rw [txt_toL];exact beq_eq_false_iff_ne.2 n0
 have q1:((txt wd).toList == [105,102,110,101,113])=false:=by rw [txt_toL];exact beq_eq_false_iff_ne.2 n1
 have q2:((txt wd).toList == [105,102,100,101,102])=false:=by rw [txt_toL];exact beq_eq_false_iff_ne.2 n2
 have q3:((txt wd).toList == [105,102,110,100,101,102])=false:=by rw [txt_toL];exact beq_eq_false_iff_ne.2 n3
 have q4:((txt wd).toList == [101,108,115,101])=false:=by rw [txt_toL];exact beq_eq_false_iff_ne.2 n4
 have q5:((txt wd).toList == [101,110,100,105,102])=false:=by rw [txt_toL];exact beq_eq_false_iff_ne.2 n5
 have q6:((txt wd).toList == [105,110,99,108,117,100,101])=false:=by rw [txt_toL];exact beq_eq_false_iff_ne.2 n6
 have q7:((txt wd).toList == [45,105,110,99,108,117,100,101])=false:=by rw [txt_toL];exact beq_eq_false_iff_ne.2 n7
 clear n0 n1 n2 n3 n4 n5 n6 n7 HO HAs
 go_wp2_with fail
 refine (HQ.out _).mono ?_
 rintro e w2 ⟨nd,rfl,hnd,hb2⟩
 have hZ2:=hZ1.below hb2
 have HZ2:=Lib.hid hZ2
 obtain ⟨hz,fz⟩:=hZ2.cells
 obtain ⟨z0,hz0⟩:=hz 0 (by omega)
 obtain ⟨z1,hz1⟩:=hz 1 (by omega)
 obtain ⟨z2,hz2⟩:=hz 2 (by omega)
 obtain ⟨z3,hz3⟩:=hz 3 (by omega)
 obtain ⟨z4,hz4⟩:=hz 4 (by omega)
 obtain ⟨z5,hz5⟩:=hz 5 (by omega)
 obtain ⟨z6,hz6⟩:=hz 6 (by omega)
 obtain ⟨z7,hz7⟩:=hz 7 (by omega)
 obtain ⟨z8,hz8⟩:=hz 8 (by omega)
 obtain ⟨z9,hz9⟩:=hz 9 (by omega)
 clear hz
 clear hZ1 hZ2 hb2
 go_wp2
 obtain ⟨hbk,r0,r1,r2,r3,r4,r5,r6,r7,r8,r9⟩:=finP0 HZ2.out.1 HZ2.out.2 (.int .i64 nd.kind) (.int .i64 nd.no) (.string (txt nd.op)) (.string (txt nd.name)) (.string (txt nd.text)) (.string (txt nd.targets)) (.string (txt nd.pattern)) (.string (txt nd.inputs)) (.string (txt nd.order)) (.slice none 0 0)
 unfold doneN at hbk r0 r1 r2 r3 r4 r5 r6 r7 r8 r9
 exact bodyPost_ret (v:=.tuple #[.agg (cellsN nd),.bool (eqL 0 s.data.toList).isSome]) (by simp [results,Tryz.results29,go_sem,r0,r1,r2,r3,r4,r5,r6,r7,r8,r9]) rfl ⟨nd,by rw [HY.out],fun n hn=>hnd n (by rw [← HY.out];exact hn),hbk⟩
end Go.Proofs.YtmfjolmfbdbegaaGreatDoor
