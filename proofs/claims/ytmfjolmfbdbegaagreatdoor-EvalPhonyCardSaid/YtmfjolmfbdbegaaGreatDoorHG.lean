/-
  Plain words: patterns with a percent sign: what is right, open, matched, filled. No program, no world.
  The library's contracts for strings.CutPrefix, CutSuffix, Count and Index (of one byte), at this program's numbers: each is one application of the shelf's.
  Small things that the walks share: texts told apart, a list that reads as some texts. No condition.
  What the functions Open, Right, Match, Fill and Subst of package glob answer, for every text up to the machine's bound; nothing that lay is turned.
  What glob.Any answers of a list of texts, by slices.ContainsFunc over a method value: whether one of them matches; nothing that lay is turned.
-/
import Derived.Lib.Bytealg
import Derived.Shelf.Small.Wraps
import Derived.Shelf.Strings.Search2
import Derived.Shelf.Strings.Count
import Derived.WalkKit
import Derived.Below
import Derived.Deep.QuietTactic
import Derived.BigQuiet
import Derived.Lib.Hide
import Derived.Outline
import Derived.Maps.AppendAt
import Derived.RangeFuncNested
import Derived.WalkSpells
import Derived.Shelf.Abstract
import Derived.Deep.Draws
import Derived.Deep.LoopGhost
import Derived.Test.YtmfjolmfbdbegaaGreatDoorCut
import Derived.Test.YtmfjolmfbdbegaaGreatDoorProg
import Derived.Test.YtmfjolmfbdbegaaGreatDoorHB
namespace Go.Proofs.YtmfjolmfbdbegaaGreatDoor
def openB (l:List UInt8):Bool:=decide (l.count 37=1)
def rightB (l:List UInt8):Bool:=!l.isEmpty && decide (l.count 37≤1)
def aheadL (l:List UInt8):List UInt8:=l.takeWhile (fun c=>c != 37)
def behindL (l:List UInt8):List UInt8:=(l.dropWhile (fun c=>c != 37)).drop 1
theorem all_ne {a:List UInt8} (h:(37:UInt8)∉a):∀ c∈a,(c != 37)=true:=by
 intro c hc
 simp only [bne_iff_ne,ne_eq]
 rintro rfl
 exact h hc
theorem ahead_cut (a b:List UInt8) (h:(37:UInt8)∉a):aheadL (a++37 :: b)=a:=by
 unfold aheadL
 rw [List.takeWhile_append_of_pos (all_ne h)]
 simp
theorem behind_cut (a b:List UInt8) (h:(37:UInt8)∉a):behindL (a++37 :: b)=b:=by
 unfold behindL
 rw [List.dropWhile_append_of_pos (all_ne h)]
 simp
theorem first_pct {l:List UInt8} (h:(37:UInt8)∈l):∃ a b,l=a++37 :: b∧(37:UInt8)∉a:=List.eq_append_cons_of_mem h
theorem open_split {l:List UInt8} (h:openB l=true):l=aheadL l++37 :: behindL l∧(37:UInt8)∉aheadL l∧(37:UInt8)∉behindL l:=by
 have hc:l.count 37=1:=by simpa [openB] using h
 have hm:(37:UInt8)∈l:=by
  rw [← List.count_pos_iff];omega
 obtain ⟨a,b,rfl,ha⟩:=first_pct hm
 rw [ahead_cut a b ha,behind_cut a b ha]
 refine ⟨rfl,ha,?_⟩
 rw [List.count_append,List.count_cons_self] at hc
 intro hb
 have:=List.count_pos_iff.2 hb
 omega
theorem index_cut (a b:List UInt8) (h:(37:UInt8)∉a):Lib.indexByte (a++37 :: b) 37=(a.length:Int):=by
 induction a with
 | nil=>simp [Lib.indexByte]
 | cons x a ih =>
  have hx:(x == 37)=false:=by simp;rintro rfl;exact h (by simp)
  have:=ih (fun hh=>h (by simp [hh]))
  simp only [List.cons_append,Lib.indexByte,hx,this]
  simp
theorem open_lens {l:List UInt8} (h:openB l=true):(aheadL l).length+1+(behindL l).length=l.length:=by
 have:=congrArg List.length (open_split h).1
 rw [List.length_append,List.length_cons] at this
 omega
theorem open_take {l:List UInt8} (h:openB l=true):l.take (aheadL l).length=aheadL l∧l.drop ((aheadL l).length+1)=behindL l:=by
 obtain ⟨h1,h2,h3⟩:=open_split h
 generalize aheadL l=a at *
 generalize behindL l=b at *
 subst h1
 constructor
 ·simp
 ·rw [show a++37 :: b=(a++[37])++b by simp,List.drop_append_of_le_length (by simp)];simp
def matchL (p s:List UInt8):List UInt8 × Bool :=
 if openB p then
  if Lib.hasPrefix s (aheadL p) then
   if Lib.hasSuffix (s.drop (aheadL p).length) (behindL p) then ((s.drop (aheadL p).length).take ((s.drop (aheadL p).length).length - (behindL p).length),true) else ([],false)
  else ([],false)
 else ([],rightB p && s == p)
def fillL (p s:List UInt8):List UInt8:=if openB p then aheadL p++s++behindL p else p
def substL (p q s:List UInt8):List UInt8:=if (matchL p s).2 then fillL q (matchL p s).1 else s
def anyL (ps:List (List UInt8)) (s:List UInt8):Bool:=ps.any (fun p=>(matchL p s).2)
theorem match_hit {p s stem:List UInt8} (h:openB p=true) (hs:s=aheadL p++stem++behindL p):matchL p s=(stem,true):=by
 have h1:Lib.hasPrefix s (aheadL p)=true:=by
  unfold Lib.hasPrefix;rw [List.isPrefixOf_iff_prefix];exact ⟨stem++behindL p,by rw [hs];simp⟩
 have h2:s.drop (aheadL p).length=stem++behindL p:=by rw [hs,List.append_assoc];simp
 have h3:Lib.hasSuffix (s.drop (aheadL p).length) (behindL p)=true:=by
  unfold Lib.hasSuffix;rw [List.isSuffixOf_iff_suffix,h2];exact ⟨stem,rfl⟩
 unfold matchL
 rw [if_pos h,if_pos h1,if_pos h3,h2]
 simp
theorem match_inv {p s:List UInt8} (h:openB p=true) (hm:(matchL p s).2=true):s=aheadL p++(matchL p s).1++behindL p:=by
 have hb:Lib.hasPrefix s (aheadL p)=true∧Lib.hasSuffix (s.drop (aheadL p).length) (behindL p)=true:=by
  unfold matchL at hm
  rw [if_pos h] at hm
  split at hm
  ·split at hm
   ·exact ⟨by assumption,by assumption⟩
   ·simp at hm
  ·simp at hm
 obtain ⟨h1,h2⟩:=hb
 unfold Lib.hasPrefix at h1
 unfold Lib.hasSuffix at h2
 rw [List.isPrefixOf_iff_prefix] at h1
 rw [List.isSuffixOf_iff_suffix] at h2
 obtain ⟨t,ht⟩:=h1
 have hd:s.drop (aheadL p).length=t:=by rw [← ht];simp
 rw [hd] at h2
 obtain ⟨u,hu⟩:=h2
 have hs:s=aheadL p++u++behindL p:=by rw [← ht,← hu,List.append_assoc]
 rw [match_hit h hs]
 exact hs
theorem match_miss {p s:List UInt8} (hm:(matchL p s).2=false):(matchL p s).1=[]:=by
 unfold matchL at hm ⊢
 split
 ·rename_i h
  rw [if_pos h] at hm
  split
  ·rename_i h1
   rw [if_pos h1] at hm
   split
   ·rename_i h2
    rw [if_pos h2] at hm
    simp at hm
   ·rfl
  ·rfl
 ·rfl
theorem match_shut {p s:List UInt8} (h:openB p=false):matchL p s=([],rightB p && s == p):=by
 unfold matchL;rw [if_neg (by simp [h])]
theorem fill_open {p:List UInt8} (h:openB p=true) (s:List UInt8):fillL p s=aheadL p++s++behindL p:=by unfold fillL;rw [if_pos h]
theorem fill_shut {p:List UInt8} (h:openB p=false) (s:List UInt8):fillL p s=p:=by unfold fillL;rw [if_neg (by simp [h])]
theorem subst_hit {p q s:List UInt8} (hm:(matchL p s).2=true):substL p q s=fillL q (matchL p s).1:=by unfold substL;rw [if_pos hm]
theorem subst_miss {p q s:List UInt8} (hm:(matchL p s).2=false):substL p q s=s:=by unfold substL;rw [if_neg (by simp [hm])]
theorem match_len (p s:List UInt8):(matchL p s).1.length≤s.length:=by
 cases hm:(matchL p s).2 with
 | false=>rw [match_miss hm];simp
 | true =>
  cases h:openB p with
  | false=>rw [match_shut h];simp
  | true =>
   have:=congrArg List.length (match_inv h hm)
   simp only [List.length_append] at this
   omega
theorem fill_len (p s:List UInt8):(fillL p s).length≤p.length+s.length:=by
 cases h:openB p with
 | false=>rw [fill_shut h];omega
 | true=>rw [fill_open h];have:=open_lens h;simp only [List.length_append];omega
theorem subst_len (p q s:List UInt8):(substL p q s).length≤q.length+s.length:=by
 cases hm:(matchL p s).2 with
 | false=>rw [subst_miss hm];omega
 | true=>rw [subst_hit hm];have:=fill_len q (matchL p s).1;have:=match_len p s;omega
end Go.Proofs.YtmfjolmfbdbegaaGreatDoor

namespace Go.Proofs.YtmfjolmfbdbegaaGreatDoor
open Go.Shelf Go.RowKit
def lays103_ren:Go.Shelf.Ren:=⟨fun | 103 => 70 | 210 => 110 | 206 => 61 | n=>n,fun | 9 => 9 | 4 => 4 | 24 => 115 | 3 => 3 | n=>n,fun | n=>n⟩
theorem lays103:Go.Proofs.Lays.n103 Tryz.prog lays103_ren:={
 mixed:=by kernel_rfl
 f103:=Tryz.func70.trans (congrArg some (by kernel_rfl))
 f206:=Tryz.func61.trans (congrArg some (by kernel_rfl))
 f210:=Tryz.func110.trans (congrArg some (by kernel_rfl))
 t3:=Tryz.underlying3
 a3:=Tryz.isAgg3
 z3:=Tryz.sizeOf3
 v3:=Tryz.zeroValue3
 t4:=Tryz.underlying4
 a4:=Tryz.isAgg4
 z4:=Tryz.sizeOf4
 v4:=Tryz.zeroValue4
 t9:=Tryz.underlying9
 a9:=Tryz.isAgg9
 z9:=Tryz.sizeOf9
 v9:=Tryz.zeroValue9
 t24:=Tryz.underlying115
 a24:=Tryz.isAgg115
 z24:=Tryz.sizeOf115
 v24:=Tryz.zeroValue115 }
theorem strings_CutPrefix (s p:ByteArray) (w:World) :
  Calls Tryz.prog 70 #[.string s,.string p] w fun e w'=>e=.returned (.tuple #[.string ⟨(Lib.trimPrefix s.data.toList p.data.toList).toArray⟩,.bool (Lib.hasPrefix s.data.toList p.data.toList)])∧w'=w:=Any.strings_CutPrefix lays103 s p w
def lays104_ren:Go.Shelf.Ren:=⟨fun | 104 => 71 | 211 => 111 | 207 => 145 | n=>n,fun | 9 => 9 | 4 => 4 | 24 => 115 | 3 => 3 | n=>n,fun | n=>n⟩
theorem lays104:Go.Proofs.Lays.n104 Tryz.prog lays104_ren:={
 mixed:=by kernel_rfl
 f104:=Tryz.func71.trans (congrArg some (by kernel_rfl))
 f207:=Tryz.func145.trans (congrArg some (by kernel_rfl))
 f211:=Tryz.func111.trans (congrArg some (by kernel_rfl))
 t3:=Tryz.underlying3
 a3:=Tryz.isAgg3
 z3:=Tryz.sizeOf3
 v3:=Tryz.zeroValue3
 t4:=Tryz.underlying4
 a4:=Tryz.isAgg4
 z4:=Tryz.sizeOf4
 v4:=Tryz.zeroValue4
 t9:=Tryz.underlying9
 a9:=Tryz.isAgg9
 z9:=Tryz.sizeOf9
 v9:=Tryz.zeroValue9
 t24:=Tryz.underlying115
 a24:=Tryz.isAgg115
 z24:=Tryz.sizeOf115
 v24:=Tryz.zeroValue115 }
theorem strings_CutSuffix (s p:ByteArray) (w:World) (hs:s.size≤9223372036854775807) :
  Calls Tryz.prog 71 #[.string s,.string p] w fun e w'=>e=.returned (.tuple #[.string ⟨(Lib.trimSuffix s.data.toList p.data.toList).toArray⟩,.bool (Lib.hasSuffix s.data.toList p.data.toList)])∧w'=w:=Any.strings_CutSuffix lays104 s p w hs
def lays219_ren:Go.Shelf.Ren:=⟨fun | 219 => 100 | 217 => 135 | 225 => 136 | 224 => 137 | 267 => 138 | 266 => 160 | 314 => 161 | n=>n,fun | 9 => 9 | 3 => 3 | 4 => 4 | 5 => 5 | 46 => 114 | 146 => 203 | 51 => 140 | n=>n,fun | 1 => 0 | n=>n⟩
theorem lays219:Go.Proofs.Lays.n219 Tryz.prog lays219_ren:={
 mixed:=by kernel_rfl
 f217:=Tryz.func135.trans (congrArg some (by kernel_rfl))
 f219:=Tryz.func100.trans (congrArg some (by kernel_rfl))
 f224:=Tryz.func137.trans (congrArg some (by kernel_rfl))
 f225:=Tryz.func136.trans (congrArg some (by kernel_rfl))
 f266:=Tryz.func160.trans (congrArg some (by kernel_rfl))
 f267:=Tryz.func138.trans (congrArg some (by kernel_rfl))
 f314:=Tryz.func161.trans (congrArg some (by kernel_rfl))
 t3:=Tryz.underlying3
 a3:=Tryz.isAgg3
 z3:=Tryz.sizeOf3
 v3:=Tryz.zeroValue3
 t4:=Tryz.underlying4
 a4:=Tryz.isAgg4
 z4:=Tryz.sizeOf4
 v4:=Tryz.zeroValue4
 t5:=Tryz.underlying5
 a5:=Tryz.isAgg5
 z5:=Tryz.sizeOf5
 v5:=Tryz.zeroValue5
 t9:=Tryz.underlying9
 a9:=Tryz.isAgg9
 z9:=Tryz.sizeOf9
 v9:=Tryz.zeroValue9
 t46:=Tryz.underlying114
 a46:=Tryz.isAgg114
 z46:=Tryz.sizeOf114
 v46:=Tryz.zeroValue114
 t51:=Tryz.underlying140
 a51:=Tryz.isAgg140
 z51:=Tryz.sizeOf140
 v51:=Tryz.zeroValue140
 t146:=Tryz.underlying203
 a146:=Tryz.isAgg203
 z146:=Tryz.sizeOf203
 v146:=Tryz.zeroValue203
 g1:=by kernel_rfl }
theorem stringslite_Index_one (s:ByteArray) (c:UInt8) (w:World) :
  Calls Tryz.prog 100 #[.string s,.string ⟨#[c]⟩] w fun e w'=>e=.returned (.int .i64 (Lib.indexByte s.data.toList c))∧w'=w:=Any.stringslite_Index_one lays219 s c w
def lays138_ren:Go.Shelf.Ren:=⟨fun | 138 => 121 | 195 => 154 | 218 => 155 | 143 => 156 | 219 => 100 | 217 => 135 | 225 => 136 | 224 => 137 | 267 => 138 | 266 => 160 | 314 => 161 | n=>n,fun | 9 => 9 | 3 => 3 | 4 => 4 | 5 => 5 | 0 => 0 | 46 => 114 | 146 => 203 | 51 => 140 | n=>n,fun | 1 => 0 | n=>n⟩
theorem lays138:Go.Proofs.Lays.n138 Tryz.prog lays138_ren:={
 mixed:=by kernel_rfl
 f138:=Tryz.func121.trans (congrArg some (by kernel_rfl))
 f143:=Tryz.func156.trans (congrArg some (by kernel_rfl))
 f195:=Tryz.func154.trans (congrArg some (by kernel_rfl))
 f217:=Tryz.func135.trans (congrArg some (by kernel_rfl))
 f218:=Tryz.func155.trans (congrArg some (by kernel_rfl))
 f219:=Tryz.func100.trans (congrArg some (by kernel_rfl))
 f224:=Tryz.func137.trans (congrArg some (by kernel_rfl))
 f225:=Tryz.func136.trans (congrArg some (by kernel_rfl))
 f266:=Tryz.func160.trans (congrArg some (by kernel_rfl))
 f267:=Tryz.func138.trans (congrArg some (by kernel_rfl))
 f314:=Tryz.func161.trans (congrArg some (by kernel_rfl))
 t0:=Tryz.underlying0
 a0:=Tryz.isAgg0
 z0:=Tryz.sizeOf0
 v0:=Tryz.zeroValue0
 t3:=Tryz.underlying3
 a3:=Tryz.isAgg3
 z3:=Tryz.sizeOf3
 v3:=Tryz.zeroValue3
 t4:=Tryz.underlying4
 a4:=Tryz.isAgg4
 z4:=Tryz.sizeOf4
 v4:=Tryz.zeroValue4
 t5:=Tryz.underlying5
 a5:=Tryz.isAgg5
 z5:=Tryz.sizeOf5
 v5:=Tryz.zeroValue5
 t9:=Tryz.underlying9
 a9:=Tryz.isAgg9
 z9:=Tryz.sizeOf9
 v9:=Tryz.zeroValue9
 t46:=Tryz.underlying114
 a46:=Tryz.isAgg114
 z46:=Tryz.sizeOf114
 v46:=Tryz.zeroValue114
 t51:=Tryz.underlying140
 a51:=Tryz.isAgg140
 z51:=Tryz.sizeOf140
 v51:=Tryz.zeroValue140
 t146:=Tryz.underlying203
 a146:=Tryz.isAgg203
 z146:=Tryz.sizeOf203
 v146:=Tryz.zeroValue203
 g1:=by kernel_rfl }
theorem strings_Count_one (s:ByteArray) (c:UInt8) (w:World) :
  Calls Tryz.prog 121 #[.string s,.string ⟨#[c]⟩] w fun e w'=>e=.returned (.int .i64 (Lib.countByte s.data.toList c))∧w'=w:=Any.strings_Count_one lays138 s c w
end Go.Proofs.YtmfjolmfbdbegaaGreatDoor

namespace Go.Proofs.YtmfjolmfbdbegaaGreatDoor
open Go.RowKit Go.Shelf
theorem txt_append (a b:List UInt8):txt a++txt b=txt (a++b):=by
 rw [← txt_toList (txt a++txt b)];simp [ByteArray.data_append,txt]
theorem below_drewN {B:Nat} {a w:World} (h:Below B a w) (m:Nat):Below B a (w.drewN m):=⟨h.os,h.tape,h.output,h.size,h.block⟩
theorem ReadsO.of_owns {W:World} {base:Nat} {v:Value} {xs:List ByteArray} (h:W.ownsRow base 9 1 v xs.length (xs.map Value.string)):ReadsO W W.heap.size v xs:=by
 rcases h.2 with ⟨hv,hn⟩ | ⟨g,cap,cur,hv,hb,hg,hk,hm,hs,ht⟩
 ·have:xs=[]:=List.eq_nil_of_length_eq_zero hn
  subst this
  exact ⟨none,0,hv,by simp⟩
 ·refine ⟨some ⟨g,0,none⟩,cap,hv,fun j x hj=>⟨g,0,rfl,(Array.getElem?_eq_some_iff.1 hg).1,hk,?_⟩⟩
  have hj':j < xs.length:=(List.getElem?_eq_some_iff.1 hj).1
  have e1:(xs.map Value.string)[j]? = some (.string x):=by rw [List.getElem?_map,hj];rfl
  rw [← ht,List.getElem?_take_of_lt (by omega)] at e1
  have e2:cur[j]? = some (.string x):=by rw [← Array.getElem?_toList];exact e1
  simp [World.cell?,hg,e2]
end Go.Proofs.YtmfjolmfbdbegaaGreatDoor

namespace Go.Proofs.YtmfjolmfbdbegaaGreatDoor
open Go.RowKit Go.Shelf
set_option maxHeartbeats 400000 in
theorem open_any (p:ByteArray) (w:World):Calls Tryz.prog 80 #[.string p] w fun e w'=>e=.returned (.bool (openB p.data.toList))∧w'=w:=by
 go_enter Tryz.func80,Tryz.ntmps80
 go_wp2_with (go_at_call 121;refine (strings_Count_one _ _ _).mono ?_;rintro e w' ⟨rfl,rfl⟩)
 go_ret
 exact ⟨ret_bool (nat_beq _ 1),rfl⟩
theorem open_t {p:ByteArray} (h:openB p.data.toList=true) (w:World):Calls Tryz.prog 80 #[.string p] w fun e w'=>e=.returned (.bool true)∧w'=w:=by
 have:=open_any p w;rwa [h] at this
theorem open_f {p:ByteArray} (h:openB p.data.toList=false) (w:World):Calls Tryz.prog 80 #[.string p] w fun e w'=>e=.returned (.bool false)∧w'=w:=by
 have:=open_any p w;rwa [h] at this
set_option maxHeartbeats 400000 in
theorem right_any (p:ByteArray) (w:World):Calls Tryz.prog 152 #[.string p] w fun e w'=>e=.returned (.bool (rightB p.data.toList))∧w'=w:=by
 cases he:p.toList.isEmpty with
 | true =>
  have HN:Hid (rightB p.data.toList=false):=by
   show _=_
   rw [Lib.toList_data] at he
   simp [rightB,he]
  go_enter Tryz.func152,Tryz.ntmps152
  go_wp2_with (go_at_call 121;refine (strings_Count_one _ _ _).mono ?_;rintro e w' ⟨rfl,rfl⟩)
  go_ret
  exact ⟨ret_bool HN.out.symm,rfl⟩
 | false =>
  have HN:Hid (rightB p.data.toList=decide (Lib.countByte p.data.toList 37≤1)):=by
   show _=_
   rw [Lib.toList_data] at he
   simp [rightB,he,Lib.countByte]
  go_enter Tryz.func152,Tryz.ntmps152
  go_wp2_with (go_at_call 121;refine (strings_Count_one _ _ _).mono ?_;rintro e w' ⟨rfl,rfl⟩)
  go_ret
  exact ⟨ret_bool (by rw [HN.out,Bool.eq_iff_iff];simp;omega),rfl⟩
theorem right_t {p:ByteArray} (h:rightB p.data.toList=true) (w:World):Calls Tryz.prog 152 #[.string p] w fun e w'=>e=.returned (.bool true)∧w'=w:=by
 have:=right_any p w;rwa [h] at this
theorem right_f {p:ByteArray} (h:rightB p.data.toList=false) (w:World):Calls Tryz.prog 152 #[.string p] w fun e w'=>e=.returned (.bool false)∧w'=w:=by
 have:=right_any p w;rwa [h] at this
theorem index_open {p:ByteArray} (h:openB p.data.toList=true):Lib.indexByte p.data.toList 37=((aheadL p.data.toList).length:Int):=by
 obtain ⟨h1,h2,_⟩:=open_split h
 have:=index_cut (aheadL p.data.toList) (behindL p.data.toList) h2
 rwa [← h1] at this
theorem index_t {p:ByteArray} (h:openB p.data.toList=true) (w:World):Calls Tryz.prog 100 #[.string p,.string ⟨#[37]⟩] w fun e w'=>e=.returned (.int .i64 ((aheadL p.data.toList).length:Int))∧w'=w:=by
 have:=stringslite_Index_one p 37 w;rwa [index_open h] at this
theorem ext_ahead {p:ByteArray} (h:openB p.data.toList=true):p.extract 0 (aheadL p.data.toList).length=txt (aheadL p.data.toList):=by
 rw [extract_txt];simp [(open_take h).1]
theorem ext_behind {p:ByteArray} (h:openB p.data.toList=true):p.extract ((aheadL p.data.toList).length+1) p.size=txt (behindL p.data.toList):=by
 rw [extract_txt,take_rest,(open_take h).2]
set_option maxRecDepth 100000 in
set_option maxHeartbeats 1000000 in
theorem cutlite_any (p:ByteArray) (hp:p.size≤maxLen) (h:openB p.data.toList=true) (w:World) :
  Calls Tryz.prog 66 #[.string p,.string ⟨#[37]⟩] w fun e w'=>e=.returned (.tuple #[.string (txt (aheadL p.data.toList)),.string (txt (behindL p.data.toList)),.bool true])∧∃ n,w'=w.drewN n:=by
 unfold maxLen at hp
 have hl:=open_lens h
 rw [size_list] at hl
 have H:=Lib.hid h
 have HI:=Lib.hid (index_t h)
 have HA:=Lib.hid (ext_ahead h)
 have HB:=Lib.hid (ext_behind h)
 clear h
 generalize hn:(aheadL p.data.toList).length=n at hl HI HA HB
 have h1:n≤p.size:=by omega
 have h2:n+1≤p.size:=by omega
 clear hn hl
 go_enter Tryz.func66,Tryz.ntmps66
 go_wp2_with (go_at_call 100;refine (HI.out _).mono ?_;rintro e w' ⟨rfl,rfl⟩)
 go_quiet (fail)
 go_wp2
 go_ret3
 exact ⟨by rw [← HA.out,← HB.out];rfl,nq,rfl⟩
set_option maxRecDepth 100000 in
set_option maxHeartbeats 1000000 in
theorem cut_any (p:ByteArray) (hp:p.size≤maxLen) (h:openB p.data.toList=true) (w:World) :
  Calls Tryz.prog 46 #[.string p,.string ⟨#[37]⟩] w fun e w'=>e=.returned (.tuple #[.string (txt (aheadL p.data.toList)),.string (txt (behindL p.data.toList)),.bool true])∧∃ n,w'=w.drewN n:=by
 have HC:=Lib.hid (cutlite_any p hp h)
 clear hp h
 go_enter Tryz.func46,Tryz.ntmps46
 go_wp2_with (go_at_call 66;refine (HC.out _).mono ?_;rintro e w' ⟨rfl,nd,rfl⟩)
 go_ret3
 exact ⟨rfl,nd,rfl⟩
def MatchPost (p s:List UInt8) (w:World) (e:Ending) (w':World):Prop:=e=.returned (.tuple #[.string (txt (matchL p s).1),.bool (matchL p s).2])∧∃ n,w'=w.drewN n
theorem match_no {p s:List UInt8} {w w':World} (h:matchL p s=([],false)) (hw:∃ n,w'=w.drewN n):MatchPost p s w (.returned (.tuple #[.string ⟨#[]⟩,.bool false])) w':=by
 refine ⟨?_,hw⟩;rw [h];rfl
theorem match_is {p s t:List UInt8} {b:Bool} {w w':World} (h:matchL p s=(t,b)) (hw:∃ n,w'=w.drewN n):MatchPost p s w (.returned (.tuple #[.string ⟨t.toArray⟩,.bool b])) w':=by
 refine ⟨?_,hw⟩;rw [h];rfl
set_option maxRecDepth 100000 in
set_option maxHeartbeats 1000000 in
theorem match_shut_any (p s:ByteArray) (h:openB p.data.toList=false) (w:World):Calls Tryz.prog 119 #[.string p,.string s] w (MatchPost p.data.toList s.data.toList w):=by
 have HO:=Lib.hid (open_f h)
 cases hr:rightB p.data.toList with
 | false =>
  have HR:=Lib.hid (right_f hr)
  have HM:Hid (matchL p.data.toList s.data.toList=([],false)):=by show _=_;rw [match_shut h,hr];rfl
  clear h hr
  go_enter Tryz.func119,Tryz.ntmps119
  go_wp2_with (first | (go_at_call 80;refine (HO.out _).mono ?_;rintro e w' ⟨rfl,rfl⟩) | (go_at_call 152;refine (HR.out _).mono ?_;rintro e w' ⟨rfl,rfl⟩))
  go_ret2
  exact match_no HM.out ⟨0,rfl⟩
 | true =>
  have HR:=Lib.hid (right_t hr)
  have HM:Hid (matchL p.data.toList s.data.toList=([],s.toList == p.toList)):=by show _=_;rw [match_shut h,hr,Lib.toList_data,Lib.toList_data];rfl
  clear h hr
  go_enter Tryz.func119,Tryz.ntmps119
  go_wp2_with (first | (go_at_call 80;refine (HO.out _).mono ?_;rintro e w' ⟨rfl,rfl⟩) | (go_at_call 152;refine (HR.out _).mono ?_;rintro e w' ⟨rfl,rfl⟩))
  go_ret2
  exact match_is HM.out ⟨0,rfl⟩
theorem cutp_t {s p:ByteArray} (h:Lib.hasPrefix s.data.toList p.data.toList=true) (w:World):Calls Tryz.prog 70 #[.string s,.string p] w fun e w'=>e=.returned (.tuple #[.string (txt (s.data.toList.drop p.data.toList.length)),.bool true])∧w'=w:=by
 have:=strings_CutPrefix s p w;unfold Lib.trimPrefix at this;rw [h] at this;exact this
theorem cutp_f {s p:ByteArray} (h:Lib.hasPrefix s.data.toList p.data.toList=false) (w:World):Calls Tryz.prog 70 #[.string s,.string p] w fun e w'=>e=.returned (.tuple #[.string s,.bool false])∧w'=w:=by
 have:=strings_CutPrefix s p w;unfold Lib.trimPrefix at this;rw [h] at this;exact this
theorem cuts_t {s p:ByteArray} (hs:s.size≤maxLen) (h:Lib.hasSuffix s.data.toList p.data.toList=true) (w:World):Calls Tryz.prog 71 #[.string s,.string p] w fun e w'=>e=.returned (.tuple #[.string (txt (s.data.toList.take (s.data.toList.length - p.data.toList.length))),.bool true])∧w'=w:=by
 have:=strings_CutSuffix s p w (by unfold maxLen at hs;omega);unfold Lib.trimSuffix at this;rw [h] at this;exact this
theorem cuts_f {s p:ByteArray} (hs:s.size≤maxLen) (h:Lib.hasSuffix s.data.toList p.data.toList=false) (w:World):Calls Tryz.prog 71 #[.string s,.string p] w fun e w'=>e=.returned (.tuple #[.string s,.bool false])∧w'=w:=by
 have:=strings_CutSuffix s p w (by unfold maxLen at hs;omega);unfold Lib.trimSuffix at this;rw [h] at this;exact this
set_option maxRecDepth 100000 in
set_option maxHeartbeats 1000000 in
theorem match_open_any (p s:ByteArray) (hp:p.size≤maxLen) (hs:s.size≤maxLen) (h:openB p.data.toList=true) (w:World):Calls Tryz.prog 119 #[.string p,.string s] w (MatchPost p.data.toList s.data.toList w):=by
 have HO:=Lib.hid (open_t h)
 have HC:=Lib.hid (cut_any p hp h)
 have hsl:=size_list s
 cases h1:Lib.hasPrefix s.data.toList (aheadL p.data.toList) with
 | false =>
  have HP:=Lib.hid (cutp_f (s:=s) (p:=txt (aheadL p.data.toList)) (by rw [txt_data];exact h1))
  have HM:Hid (matchL p.data.toList s.data.toList=([],false)):=by show _=_;unfold matchL;rw [if_pos h,if_neg (by simp [h1])]
  clear h h1 hp hs hsl
  go_enter Tryz.func119,Tryz.ntmps119
  go_wp2_with (first | (go_at_call 80;refine (HO.out _).mono ?_;rintro e w' ⟨rfl,rfl⟩) | (go_at_call 46;refine (HC.out _).mono ?_;rintro e w' ⟨rfl,nd,rfl⟩) | (go_at_call 70;refine (HP.out _).mono ?_;rintro e w' ⟨rfl,rfl⟩))
  go_ret2
  exact match_no HM.out ⟨_,rfl⟩
 | true =>
  have HP:=Lib.hid (cutp_t (s:=s) (p:=txt (aheadL p.data.toList)) (by rw [txt_data];exact h1))
  cases h2:Lib.hasSuffix (s.data.toList.drop (aheadL p.data.toList).length) (behindL p.data.toList) with
  | false =>
   have HS:=Lib.hid (cuts_f (s:=txt (s.data.toList.drop (txt (aheadL p.data.toList)).data.toList.length)) (p:=txt (behindL p.data.toList)) (by rw [txt_size];simp only [List.length_drop];omega) (by simp only [txt_data];exact h2))
   have HM:Hid (matchL p.data.toList s.data.toList=([],false)):=by show _=_;unfold matchL;rw [if_pos h,if_pos h1,if_neg (by simp [h2])]
   clear h h1 h2 hp hs hsl
   go_enter Tryz.func119,Tryz.ntmps119
   go_wp2_with (first | (go_at_call 80;refine (HO.out _).mono ?_;rintro e w' ⟨rfl,rfl⟩) | (go_at_call 46;refine (HC.out _).mono ?_;rintro e w' ⟨rfl,nd,rfl⟩) | (go_at_call 70;refine (HP.out _).mono ?_;rintro e w' ⟨rfl,rfl⟩) | (go_at_call 71;refine (HS.out _).mono ?_;rintro e w' ⟨rfl,rfl⟩))
   go_ret2
   exact match_no HM.out ⟨_,rfl⟩
  | true =>
   have HS:=Lib.hid (cuts_t (s:=txt (s.data.toList.drop (txt (aheadL p.data.toList)).data.toList.length)) (p:=txt (behindL p.data.toList)) (by rw [txt_size];simp only [List.length_drop];omega) (by simp only [txt_data];exact h2))
   have HM:Hid (matchL p.data.toList s.data.toList=(List.take (s.size - (aheadL p.data.toList).length - (behindL p.data.toList).length) (List.drop (aheadL p.data.toList).length s.data.toList),true)):=by show _=_;unfold matchL;rw [if_pos h,if_pos h1,if_pos h2,List.length_drop,hsl]
   clear h h1 h2 hp hs hsl
   go_enter Tryz.func119,Tryz.ntmps119
   go_wp2_with (first | (go_at_call 80;refine (HO.out _).mono ?_;rintro e w' ⟨rfl,rfl⟩) | (go_at_call 46;refine (HC.out _).mono ?_;rintro e w' ⟨rfl,nd,rfl⟩) | (go_at_call 70;refine (HP.out _).mono ?_;rintro e w' ⟨rfl,rfl⟩) | (go_at_call 71;refine (HS.out _).mono ?_;rintro e w' ⟨rfl,rfl⟩))
   go_ret2
   exact match_is HM.out ⟨_,rfl⟩
theorem match_any (p s:ByteArray) (hp:p.size≤maxLen) (hs:s.size≤maxLen) (w:World):Calls Tryz.prog 119 #[.string p,.string s] w (MatchPost p.data.toList s.data.toList w):=by
 cases h:openB p.data.toList with
 | false=>exact match_shut_any p s h w
 | true=>exact match_open_any p s hp hs h w
def FillPost (t:List UInt8) (w:World) (e:Ending) (w':World):Prop:=e=.returned (.string (txt t))∧∃ n,w'=w.drewN n
set_option maxRecDepth 100000 in
set_option maxHeartbeats 1000000 in
theorem fill_any (p s:ByteArray) (hp:p.size≤1000000000000) (hs:s.size≤1000000000000) (w:World):Calls Tryz.prog 153 #[.string p,.string s] w (FillPost (fillL p.data.toList s.data.toList) w):=by
 cases h:openB p.data.toList with
 | false =>
  have HO:=Lib.hid (open_f h)
  have HF:Hid (txt (fillL p.data.toList s.data.toList)=p):=by show _=_;rw [fill_shut h,txt_toList]
  clear h hp hs
  go_enter Tryz.func153,Tryz.ntmps153
  go_wp2_with (go_at_call 80;refine (HO.out _).mono ?_;rintro e w' ⟨rfl,rfl⟩)
  go_ret
  exact ⟨by rw [HF.out];rfl,0,rfl⟩
 | true =>
  have HO:=Lib.hid (open_t h)
  have HC:=Lib.hid (cut_any p (by unfold maxLen;omega) h)
  have hl:=open_lens h
  rw [size_list] at hl
  have HF:Hid (txt (fillL p.data.toList s.data.toList)=txt (aheadL p.data.toList)++s++txt (behindL p.data.toList)):=by
   show _=_
   rw [fill_open h,← txt_append,← txt_append,txt_toList]
  have hz1:(txt (aheadL p.data.toList)).size≤p.size:=by rw [txt_size];omega
  have hz2:(txt (behindL p.data.toList)).size≤p.size:=by rw [txt_size];omega
  clear h hl
  generalize txt (aheadL p.data.toList)=a at HC HF hz1
  generalize txt (behindL p.data.toList)=b at HC HF hz2
  have g1:¬ 9223372036854775807 < a.size+s.size:=by omega
  have g2:¬ 9223372036854775807 < a.size+s.size+b.size:=by omega
  have g3:(a++s).size=a.size+s.size:=ByteArray.size_append ..
  clear hp hs hz1 hz2
  go_enter Tryz.func153,Tryz.ntmps153
  go_wp2_with (first | (go_at_call 80;refine (HO.out _).mono ?_;rintro e w' ⟨rfl,rfl⟩) | (go_at_call 46;refine (HC.out _).mono ?_;rintro e w' ⟨rfl,nd,rfl⟩))
  go_ret
  exact ⟨by rw [HF.out];rfl,nd,rfl⟩
set_option maxRecDepth 100000 in
set_option maxHeartbeats 1000000 in
theorem subst_any (p q s:ByteArray) (hp:p.size≤1000000000000) (hq:q.size≤1000000000000) (hs:s.size≤1000000000000) (w:World):Calls Tryz.prog 204 #[.string p,.string q,.string s] w (FillPost (substL p.data.toList q.data.toList s.data.toList) w):=by
 have hm:=match_any p s (by unfold maxLen;omega) (by unfold maxLen;omega)
 have hml:=match_len p.data.toList s.data.toList
 rw [size_list] at hml
 unfold MatchPost at hm
 cases h:(matchL p.data.toList s.data.toList).2 with
 | false =>
  rw [h] at hm
  have HM:=Lib.hid hm
  have HF:Hid (txt (substL p.data.toList q.data.toList s.data.toList)=s):=by show _=_;rw [subst_miss h,txt_toList]
  clear h hp hs hm hml
  go_enter Tryz.func204,Tryz.ntmps204
  go_wp2_with (go_at_call 119;refine (HM.out _).mono ?_;rintro e w' ⟨rfl,nd,rfl⟩)
  go_ret
  exact ⟨by rw [HF.out];rfl,nd,rfl⟩
 | true =>
  rw [h] at hm
  have HM:=Lib.hid hm
  have hf:=fill_any q (txt (matchL p.data.toList s.data.toList).1) hq (by rw [txt_size];omega)
  rw [txt_data,← subst_hit h] at hf
  have HF:=Lib.hid hf
  clear h hp hs hm hml hf
  go_enter Tryz.func204,Tryz.ntmps204
  go_wp2_with (first | (go_at_call 119;refine (HM.out _).mono ?_;rintro e w' ⟨rfl,nd,rfl⟩) | (go_at_call 153;refine (HF.out _).mono ?_;rintro e w' ⟨rfl,nf,rfl⟩))
  go_ret
  exact ⟨rfl,_,rfl⟩
end Go.Proofs.YtmfjolmfbdbegaaGreatDoor

namespace Go.Proofs.YtmfjolmfbdbegaaGreatDoor
open Go.RowKit Go.Shelf
def oneB (p s:ByteArray):Bool:=(matchL p.data.toList s.data.toList).2
def anyB (ps:List ByteArray) (s:ByteArray):Bool:=ps.any (fun p=>oneB p s)
set_option maxRecDepth 100000 in
set_option maxHeartbeats 1000000 in
theorem matched_any (s p:ByteArray) (hp:p.size≤maxLen) (hs:s.size≤maxLen) (w:World):Calls Tryz.prog 242 #[.string s,.string p] w fun e w'=>e=.returned (.bool (oneB p s))∧∃ n,w'=w.drewN n:=by
 have HM:=Lib.hid (match_any p s hp hs)
 clear hp hs
 go_enter Tryz.func242,Tryz.ntmps242
 go_wp2_with (go_at_call 119;refine (HM.out _).mono ?_;rintro e w' ⟨rfl,nd,rfl⟩)
 go_ret
 exact ⟨rfl,nd,rfl⟩
theorem first_none {ps:List ByteArray} {s:ByteArray} (h:∀ j (hj:j < ps.length),oneB ps[j] s=false):anyB ps s=false:=by
 unfold anyB
 rw [List.any_eq_false]
 intro p hp
 obtain ⟨j,hj,rfl⟩:=List.getElem_of_mem hp
 simp [h j hj]
theorem first_some {ps:List ByteArray} {s:ByteArray} {j:Nat} (hj:j < ps.length) (h:oneB ps[j] s=true):anyB ps s=true:=by
 unfold anyB
 rw [List.any_eq_true]
 exact ⟨ps[j],List.getElem_mem hj,h⟩
def IdxPost (ps:List ByteArray) (s:ByteArray) (w:World) (e:Ending) (w':World):Prop:=∃ i:Int,e=.returned (.int .i64 i)∧(decide (0≤i)=anyB ps s)∧∃ n,w'=w.drewN n
set_option maxRecDepth 100000 in
set_option maxHeartbeats 2000000 in
theorem indexFunc_any (v:Value) (ps:List ByteArray) (s:ByteArray) (B:Nat) (w:World) (hr:ReadsO w B v ps) (hn:ps.length≤maxLen) (hz:∀ p∈ps,p.size≤maxLen) (hs:s.size≤maxLen) :
  Calls Tryz.prog 122 #[v,.func (.func 242) #[.string s] #[]] w (IdxPost ps s w):=by
 unfold maxLen at hn
 obtain ⟨o,c,rfl,hx⟩:=hr
 have HX:=Lib.hid hx
 have HZ:=Lib.hid hz
 have HS:=Lib.hid hs
 clear hx hz hs
 go_enter Tryz.func122,Tryz.ntmps122
 go_wp2
 go_loopw [5,8] (fun _ i wr=>∃ k q:Nat,k≤ps.length∧i=.int .i64 k∧wr=w.drewN q∧Hid (∀ j (hj:j < ps.length),j < k→oneB ps[j] s=false)) (fun _ i _=>ps.length - (intOf i).toNat)
 case atStart=>exact ⟨0,0,Nat.zero_le _,rfl,rfl,fun j hj h=>absurd h (Nat.not_lt_zero _)⟩
 case round =>
  obtain ⟨k,q,hk,rfl,rfl,HA⟩:=hrel
  by_cases hlt:k < ps.length
  ·obtain ⟨b,f,rfl,_,hkc,hcell⟩:=HX.out k ps[k] (List.getElem?_eq_getElem hlt)
   have hkc':k < c:=by omega
   have HC:=Lib.hid (matched_any s ps[k] (HZ.out _ (List.getElem_mem hlt)) HS.out)
   cases h1:oneB ps[k] s with
   | true =>
    have HC':Hid (∀ w,Calls Tryz.prog 242 #[.string s,.string ps[k]] w fun e w'=>e=.returned (.bool true)∧∃ n,w'=w.drewN n):=by
     intro w;have:=HC.out w;rwa [h1] at this
    have HN:Hid (anyB ps s=true):=first_some hlt h1
    clear HC h1
    generalize ps[k]=x at hcell HC'
    go_wp2_with (go_at_call 242;refine (HC'.out _).mono ?_;rintro e w' ⟨rfl,nd,rfl⟩)
    go_ret
    exact ⟨_,rfl,by rw [HN.out];simp,_,rfl⟩
   | false =>
    have HC':Hid (∀ w,Calls Tryz.prog 242 #[.string s,.string ps[k]] w fun e w'=>e=.returned (.bool false)∧∃ n,w'=w.drewN n):=by
     intro w;have:=HC.out w;rwa [h1] at this
    have HN:Hid (∀ j (hj:j < ps.length),j < k+1→oneB ps[j] s=false):=by
     intro j hj hjk
     by_cases hjk':j < k
     ·exact HA.out j hj hjk'
     ·have:j=k:=by omega
      subst this
      exact h1
    clear HC h1
    generalize ps[k]=x at hcell HC'
    go_wp2_with (go_at_call 242;refine (HC'.out _).mono ?_;rintro e w' ⟨rfl,nd,rfl⟩)
    go_roundw
    case rel=>exact ⟨k+1,_,hlt,by go_num,rfl,HN⟩
    case measure=>simp [intOf];omega
  ·have HN:Hid (anyB ps s=false):=first_none fun j hj=>HA.out j hj (by omega)
   go_wp2
   go_ret
   exact ⟨_,rfl,by rw [HN.out];simp,_,rfl⟩
set_option maxRecDepth 100000 in
set_option maxHeartbeats 1000000 in
theorem containsFunc_any (v:Value) (ps:List ByteArray) (s:ByteArray) (B:Nat) (w:World) (hr:ReadsO w B v ps) (hn:ps.length≤maxLen) (hz:∀ p∈ps,p.size≤maxLen) (hs:s.size≤maxLen) :
  Calls Tryz.prog 82 #[v,.func (.func 242) #[.string s] #[]] w fun e w'=>e=.returned (.bool (anyB ps s))∧∃ n,w'=w.drewN n:=by
 have HI:=Lib.hid (indexFunc_any v ps s B w hr hn hz hs)
 clear hr hn hz hs
 go_enter Tryz.func82,Tryz.ntmps82
 go_wp2_with (go_at_call 122;refine HI.out.mono ?_;rintro e w' ⟨i,rfl,hi,nd,rfl⟩)
 go_ret
 exact ⟨rfl,nd,rfl⟩
set_option maxRecDepth 100000 in
set_option maxHeartbeats 1000000 in
theorem any_any (v:Value) (ps:List ByteArray) (s:ByteArray) (B:Nat) (w:World) (hr:ReadsO w B v ps) (hn:ps.length≤maxLen) (hz:∀ p∈ps,p.size≤maxLen) (hs:s.size≤maxLen) :
  Calls Tryz.prog 231 #[v,.string s] w fun e w'=>e=.returned (.bool (anyB ps s))∧∃ n,w'=w.drewN n:=by
 have HI:=Lib.hid (containsFunc_any v ps s B w hr hn hz hs)
 clear hr hn hz hs
 go_enter Tryz.func231,Tryz.ntmps231
 go_wp2_with (go_at_call 82;refine HI.out.mono ?_;rintro e w' ⟨rfl,nd,rfl⟩)
 go_ret
 exact ⟨rfl,nd,rfl⟩
end Go.Proofs.YtmfjolmfbdbegaaGreatDoor
