/-
  What text.isNewline answers. For every byte, no condition.
  What text.Lines answers, for every text; a list that reads as some texts. No condition.
  A row of chapter 8's lines, as it lies in memory; what a call of Lex must tell. No condition.
  Rows of structs that lie anywhere: read, made longer by one; which blocks turn. No condition but that a row stays below 2^40 elements.
  What the library's strings.TrimRight, TrimSuffix, HasPrefix and Cut answer at chapter 8's signs, and what cutGoOn answers, for every text. No condition.
  What together answers: the lines that go on, put together and trimmed, and how many. For at most a million lines of at most a million bytes each. No condition.
  What first answers: the first line that is told, or that says nothing, and of how many lines it was put together. No condition.
  What Lex answers, for every text of at most a million bytes: what the plain words of chapter 8 tell. No condition.
-/
import Derived.WalkKit
import Derived.Lib.Bytealg
import Derived.Lib.Hide
import Derived.Outline
import Derived.ProofKit
import Derived.Below
import Derived.Carry
import Derived.RowKit
import Derived.Maps.AppendAt
import Derived.KernelRfl
import Derived.Lib.Builder
import Derived.Shelf.Strings.Search2
import Derived.Shelf.Strings.Prefix
import Derived.Shelf.Strings.SlTrimAscii
import Derived.Deep.QuietTactic
import Derived.OwnWalkIn
import Derived.TacticsInMore
import Derived.LoopIn
import Derived.LoopNIn
import Derived.WalkSpells
import Derived.WalkMore
import Derived.Test.YtmfjolmfbdbegaaGreatDoorProg
import Derived.Test.YtmfjolmfbdbegaaGreatDoorEP
import Derived.Test.YtmfjolmfbdbegaaGreatDoorHB
import Derived.Test.YtmfjolmfbdbegaaGreatDoorEA
import Derived.Test.YtmfjolmfbdbegaaGreatDoorIter
import Derived.Test.YtmfjolmfbdbegaaGreatDoorNBd
import Derived.Test.YtmfjolmfbdbegaaGreatDoorHG
import Derived.Test.YtmfjolmfbdbegaaGreatDoorGC
namespace Go.Proofs.YtmfjolmfbdbegaaGreatDoor
open Go.RowKit
set_option maxHeartbeats 400000 in
theorem isNewline_any (c:UInt8) (w:World):Calls Tryz.prog 44 #[.int .u8 (c.toNat:Int)] w fun e w'=>e=.returned (.bool (nlB c))∧w=w':=by
 go_enter Tryz.func44,Tryz.ntmps44
 go_wp2
 go_ret
 exact ⟨ret_bool (nat_beq _ _),rfl⟩
end Go.Proofs.YtmfjolmfbdbegaaGreatDoor

namespace Go.Proofs.YtmfjolmfbdbegaaGreatDoor
open Go.RowKit Go.Shelf
set_option maxHeartbeats 1000000 in
theorem lines_any (s:ByteArray) (hs:s.size≤8796093022207) (w:World) :
  Calls Tryz.prog 26 #[.string s] w fun e W'=>∃ v,e=.returned v∧Reads W' W'.heap.size v (linesOf s.data.toList)∧Below w.heap.size w W':=by
 have hm:s.size≤maxLen:=by unfold maxLen;omega
 have hl:=pieces_len nlB s.data.toList
 rw [size_list] at hl
 have bS:=(Boxed.new w 9 (.string s)).alloc (.cells #[.func (.func 44) #[] #[]] 67)
 have bC:=Boxed.new (w.alloc (.cells #[.string s] 9)) 67 (.func (.func 44) #[] #[])
 rw [World.size_alloc] at bC
 have hG:=gather_any 42 #[.pointer (some ⟨w.heap.size,0,none⟩),.pointer (some ⟨w.heap.size+1,0,none⟩)] (enters_of Tryz.func42 (by kernel_rfl) rfl) (fun j=>j=w.heap.size∨j=w.heap.size+1) ((pieces nlB s.data.toList).map txt)
  ((w.alloc (.cells #[.string s] 9)).alloc (.cells #[.func (.func 44) #[] #[]] 67)) w.heap.size (by simp;omega)
  (fun n=>between1_tells n s hm nlB 44 (enters_of Tryz.func44 (by kernel_rfl) rfl) isNewline_any w.heap.size (w.heap.size+1) _ bS bC) (by rintro k (rfl | rfl) <;> simp <;> omega) (by rw [List.length_map];omega)
 obtain ⟨ini,last,hq⟩:∃ ini last,pieces nlB s.data.toList=ini++[last]:=by
  rcases List.eq_nil_or_concat (pieces nlB s.data.toList) with h | ⟨a,b,h⟩
  ·exact absurd h (pieces_ne nlB s.data.toList)
  ·exact ⟨a,b,by simpa using h⟩
 have HL:Hid (linesOf s.data.toList=if last=[] then ini.map txt else ini.map txt++[txt last]):=by
  show linesOf s.data.toList=_
  unfold linesOf
  rw [hq]
  simp
 rw [hq] at hG hl
 have HG:Hid (Calls Tryz.prog 43 #[.func (.func 42) #[] #[.pointer (some ⟨w.heap.size,0,none⟩),.pointer (some ⟨w.heap.size+1,0,none⟩)]] ((w.alloc (.cells #[.string s] 9)).alloc (.cells #[.func (.func 44) #[] #[]] 67)) fun e W' =>
   ∃ b o c,e=.returned (.slice (some ⟨b,o,none⟩) (ini.length+1) c)∧ini.length+1≤c∧W'.cell? ⟨b,o+ini.length,none⟩=some (.string (txt last))∧Reads W' W'.heap.size (.slice (some ⟨b,o,none⟩) ini.length c) (ini.map txt)∧Reads W' W'.heap.size (.slice (some ⟨b,o,none⟩) (ini.length+1) c) (ini.map txt++[txt last])∧Below w.heap.size w W'):=by
  refine hG.mono ?_
  rintro e W' ⟨v,rfl,hr,hb⟩
  have hrd:=Reads.of_owns hr
  rw [List.map_append,List.map_cons,List.map_nil] at hrd
  have hrd':=hrd
  obtain ⟨b,o,c,rfl,hc,hcell,hini⟩:=reads_last hrd'
  rw [List.length_map] at hc hcell hini hrd
  exact ⟨b,o,c,by rw [List.length_map],hc,hcell,hini,hrd,(((Below.refl _ w).alloc (Nat.le_refl _) _).alloc (by simp) _).trans hb⟩
 have hil:ini.length+1≤s.size+1:=by simpa using hl
 clear hG hq bS bC hl
 by_cases he:last=[]
 ·have h1:(txt last).toList=[]:=by rw [txt_toL];exact he
  have HE:=Lib.hid he;clear he
  go_enter Tryz.func26,Tryz.ntmps26
  go_wp2_with fail
  refine (between_any s 44 w).mono ?_
  rintro e w' ⟨rfl,rfl⟩
  go_wp2_with fail
  refine HG.out.mono ?_
  rintro e w' ⟨b,o,c,rfl,hc,hcell,hini,hall,hb⟩
  go_wp2_with fail
  go_ret
  exact ⟨_,rfl,by rw [HL.out,if_pos HE.out];exact hini,hb⟩
 ·have h1:(txt last).toList.isEmpty=false:=by rw [txt_toL];simpa using he
  have HE:=Lib.hid he;clear he
  go_enter Tryz.func26,Tryz.ntmps26
  go_wp2_with fail
  refine (between_any s 44 w).mono ?_
  rintro e w' ⟨rfl,rfl⟩
  go_wp2_with fail
  refine HG.out.mono ?_
  rintro e w' ⟨b,o,c,rfl,hc,hcell,hini,hall,hb⟩
  go_wp2_with fail
  go_ret
  exact ⟨_,rfl,by rw [HL.out,if_neg HE.out];exact hall,hb⟩
end Go.Proofs.YtmfjolmfbdbegaaGreatDoor

namespace Go.Proofs.YtmfjolmfbdbegaaGreatDoor
open Go.RowKit
def ReadsI (W:World) (B:Nat) (v:Value) (l:List Item):Prop :=
 ∃ o c,v=.slice o l.length c∧∀ j x,l[j]? = some x→∃ b f,o=some ⟨b,f,none⟩∧b < B∧l.length≤c∧W.cell? ⟨b,f+j*3,none⟩=some (.int .i64 (x.1:Nat))∧W.cell? ⟨b,f+j*3+1,none⟩=some (.bool x.2.1)∧W.cell? ⟨b,f+j*3+2,none⟩=some (.string (txt x.2.2))
theorem ReadsI.below {W W':World} {B B':Nat} {v:Value} {l:List Item} (h:ReadsI W B v l) (hb:Below B W W') (hB:B≤B'):ReadsI W' B' v l:=by
 obtain ⟨o,c,hv,hx⟩:=h
 refine ⟨o,c,hv,fun j x hj=>?_⟩
 obtain ⟨b,f,h1,h2,h3,h4,h5,h6⟩:=hx j x hj
 exact ⟨b,f,h1,by omega,h3,(hb.cell (p:=⟨b,f+j*3,none⟩) h2).trans h4,(hb.cell (p:=⟨b,f+j*3+1,none⟩) h2).trans h5,(hb.cell (p:=⟨b,f+j*3+2,none⟩) h2).trans h6⟩
theorem ReadsI.empty (W:World) (B:Nat):ReadsI W B (.slice none 0 0) []:=⟨_,_,rfl,fun j x h=>by simp at h⟩
def LexPost (w:World) (s:BS) (e:Ending) (w':World):Prop :=
 ∃ o c,e=.returned (.tuple #[.slice o (lexOf s).1.length c,.int .i64 (lexOf s).2.1,.int .i64 ((lexOf s).2.2:Nat)])∧ReadsI w' w'.heap.size (.slice o (lexOf s).1.length c) (lexOf s).1∧Below w.heap.size w w'
def LexC:Prop:=∀ (s:ByteArray) (w:World),s.size≤1000000→Calls Tryz.prog 16 #[.string s] w (LexPost w s.data.toList)
end Go.Proofs.YtmfjolmfbdbegaaGreatDoor

namespace Go.Proofs.YtmfjolmfbdbegaaGreatDoor
open Go.RowKit
variable {α:Type}
abbrev encI (x:Item):List Value:=[.int .i64 (x.1:Nat),.bool x.2.1,.string (txt x.2.2)]
theorem rowLines:RowT 51 70 3 :=
 rowT_of (.agg #[.int .i64 0,.bool false,.string ⟨#[]⟩]) 32 Tryz.underlying51 (by kernel_rfl) (by decide) rfl (by decide)
theorem RowR.readsI {w:World} {P:Nat→Prop} {v:Value} {l:List Item} (h:RowR 70 3 encI w P v l):ReadsI w w.heap.size v l:=by
 obtain ⟨o,c,hv,q1,q2,q3,q4⟩:=h.shape (fun _=>rfl)
 refine ⟨o,c,hv,fun j x hj=>?_⟩
 obtain ⟨g,hg,hx⟩:=q4 j x hj
 have h0:=hx 0 (by omega)
 have h1:=hx 1 (by omega)
 have h2:=hx 2 (by omega)
 rw [Nat.add_zero] at h0
 exact ⟨g,0,hg,h.lt g (by rw [hv,hg];rfl),q1,by rw [Nat.zero_add];exact h0,by rw [Nat.zero_add];exact h1,by rw [Nat.zero_add];exact h2⟩
def RowI (w0 w:World) (v:Value) (l:List Item):Prop:=RowR 70 3 encI w (fun n=>w0.heap.size≤n∧n < w.heap.size) v l∧Below w0.heap.size w0 w
section
variable {w0 w w':World} {v:Value} {l:List Item}
theorem RowI.start (h:Below w0.heap.size w0 w):RowI w0 w (.slice none 0 0) []:=⟨RowR.nil _ _ _ _ _,h⟩
theorem RowI.back (h:RowI w0 w v l):Below w0.heap.size w0 w:=h.2
theorem RowI.reads (h:RowI w0 w v l):ReadsI w w.heap.size v l:=h.1.readsI
theorem RowI.below (h:RowI w0 w v l) (hb:Below w.heap.size w w'):RowI w0 w' v l :=
 ⟨(h.1.kept (turned_below hb) (fun _ _ h=>h)).wider (fun _ hn=>⟨hn.1,Nat.lt_of_lt_of_le hn.2 hb.size⟩),h.2.trans (hb.mono h.2.size)⟩
theorem RowI.push (h:RowI w0 w v l) (x:Item) (hl:l.length < 1000000) (ty:TypeId) :
  ∃ o c w',(Builtin.append_ #[51,51] ty #[v,.slice (some ⟨w.heap.size,0,none⟩) 1 1]).run Tryz.prog (w.alloc (.cells #[.int .i64 (x.1:Nat),.bool x.2.1,.string (txt x.2.2)] 70))=.ok (.slice o (l.length+1) c) w'∧RowI w0 w' (.slice o (l.length+1) c) (l++[x]):=by
 have hba:Below w.heap.size w (w.alloc (.cells #[.int .i64 (x.1:Nat),.bool x.2.1,.string (txt x.2.2)] 70)):=(Below.refl _ w).alloc (Nat.le_refl _) _
 have h9:=h.below hba
 have hx9:=World.alloc_heap_new w (.cells #[.int .i64 (x.1:Nat),.bool x.2.1,.string (txt x.2.2)] 70)
 obtain ⟨v',w',hrun,hR,hT,o,c,rfl⟩:=RowR.push rowLines h9.1 x rfl (by simp [Value.oneCell']) w.heap.size 1 (0,0) hx9 (by omega) ty
 refine ⟨o,c,w',hrun,hR.tight.wider (fun n hn=>⟨?_,hn.2⟩),h9.2.trans (hT.below (by exact h9.2.size) fun n hn=>hn.1)⟩
 rcases hn.1 with hn | hn
 ·exact hn.1
 ·rw [hn];exact h9.2.size
end
end Go.Proofs.YtmfjolmfbdbegaaGreatDoor

namespace Go.Proofs.YtmfjolmfbdbegaaGreatDoor
open Go.Shelf Go.RowKit
def lays162_ren:Go.Shelf.Ren:=⟨fun | 119 => 173 | 120 => 164 | 137 => 165 | 151 => 141 | 152 => 163 | 162 => 97 | 197 => 140 | 217 => 135 | 224 => 137 | 225 => 136 | 227 => 103 | 228 => 139 | 232 => 102 | 234 => 105 | 236 => 107 | 260 => 162 | 266 => 160 | 271 => 142 | n=>n,fun | 0 => 0 | 3 => 3 | 4 => 4 | 5 => 5 | 9 => 9 | 21 => 21 | 46 => 114 | 105 => 185 | 116 => 147 | 117 => 148 | 119 => 216 | 124 => 151 | 138 => 218 | 139 => 219 | n=>n,fun | 3 => 1 | 4 => 2 | n=>n⟩
theorem lays162:Go.Proofs.Lays.n162 Tryz.prog lays162_ren:={
 mixed:=by kernel_rfl
 f119:=Tryz.func173.trans (congrArg some (by kernel_rfl))
 f120:=Tryz.func164.trans (congrArg some (by kernel_rfl))
 f137:=Tryz.func165.trans (congrArg some (by kernel_rfl))
 f151:=Tryz.func141.trans (congrArg some (by kernel_rfl))
 f152:=Tryz.func163.trans (congrArg some (by kernel_rfl))
 f162:=Tryz.func97.trans (congrArg some (by kernel_rfl))
 f197:=Tryz.func140.trans (congrArg some (by kernel_rfl))
 f217:=Tryz.func135.trans (congrArg some (by kernel_rfl))
 f224:=Tryz.func137.trans (congrArg some (by kernel_rfl))
 f225:=Tryz.func136.trans (congrArg some (by kernel_rfl))
 f227:=Tryz.func103.trans (congrArg some (by kernel_rfl))
 f228:=Tryz.func139.trans (congrArg some (by kernel_rfl))
 f232:=Tryz.func102.trans (congrArg some (by kernel_rfl))
 f234:=Tryz.func105.trans (congrArg some (by kernel_rfl))
 f236:=Tryz.func107.trans (congrArg some (by kernel_rfl))
 f260:=Tryz.func162.trans (congrArg some (by kernel_rfl))
 f266:=Tryz.func160.trans (congrArg some (by kernel_rfl))
 f271:=Tryz.func142.trans (congrArg some (by kernel_rfl))
 t0:=Tryz.underlying0
 a0:=Tryz.isAgg0
 z0:=Tryz.sizeOf0
 v0:=Tryz.zeroValue0
 t3:=Tryz.underlying3
 a3:=Tryz.isAgg3
 z3:=Tryz.sizeOf3
 v3:=Tryz.zeroValue3
 t4:=Tryz.underlying4
 a4:=Tryz.isAgg4
 z4:=Tryz.sizeOf4
 v4:=Tryz.zeroValue4
 t5:=Tryz.underlying5
 a5:=Tryz.isAgg5
 z5:=Tryz.sizeOf5
 v5:=Tryz.zeroValue5
 t9:=Tryz.underlying9
 a9:=Tryz.isAgg9
 z9:=Tryz.sizeOf9
 v9:=Tryz.zeroValue9
 t21:=Tryz.underlying21
 a21:=Tryz.isAgg21
 z21:=Tryz.sizeOf21
 v21:=Tryz.zeroValue21
 t46:=Tryz.underlying114
 a46:=Tryz.isAgg114
 z46:=Tryz.sizeOf114
 v46:=Tryz.zeroValue114
 t105:=Tryz.underlying185
 a105:=Tryz.isAgg185
 z105:=Tryz.sizeOf185
 v105:=Tryz.zeroValue185
 t116:=Tryz.underlying147
 a116:=Tryz.isAgg147
 z116:=Tryz.sizeOf147
 t117:=Tryz.underlying148
 a117:=Tryz.isAgg148
 z117:=Tryz.sizeOf148
 v117:=Tryz.zeroValue148
 t119:=Tryz.underlying216
 a119:=Tryz.isAgg216
 z119:=Tryz.sizeOf216
 t124:=Tryz.underlying151
 a124:=Tryz.isAgg151
 z124:=Tryz.sizeOf151
 v124:=Tryz.zeroValue151
 t138:=Tryz.underlying218
 a138:=Tryz.isAgg218
 z138:=Tryz.sizeOf218
 v138:=Tryz.zeroValue218
 t139:=Tryz.underlying219
 a139:=Tryz.isAgg219
 z139:=Tryz.sizeOf219
 v139:=Tryz.zeroValue219
 g3:=by kernel_rfl
 g4:=by kernel_rfl }
def lays102_ren:Go.Shelf.Ren:=⟨fun | 102 => 98 | 207 => 145 | 209 => 131 | n=>n,fun | 3 => 3 | 4 => 4 | 9 => 9 | n=>n,fun | n=>n⟩
theorem lays102:Go.Proofs.Lays.n102 Tryz.prog lays102_ren:={
 mixed:=by kernel_rfl
 f102:=Tryz.func98.trans (congrArg some (by kernel_rfl))
 f207:=Tryz.func145.trans (congrArg some (by kernel_rfl))
 f209:=Tryz.func131.trans (congrArg some (by kernel_rfl))
 t3:=Tryz.underlying3
 a3:=Tryz.isAgg3
 z3:=Tryz.sizeOf3
 v3:=Tryz.zeroValue3
 t4:=Tryz.underlying4
 a4:=Tryz.isAgg4
 z4:=Tryz.sizeOf4
 v4:=Tryz.zeroValue4
 t9:=Tryz.underlying9
 a9:=Tryz.isAgg9
 z9:=Tryz.sizeOf9
 v9:=Tryz.zeroValue9 }
theorem contains_stroke (c:UInt8):([92]:List UInt8).contains c=strokeB c:=by
 by_cases h:c=92
 ·subst h;rfl
 ·have e:c.toNat≠92:=fun q=>h (UInt8.toNat_inj.1 (by rw [q];rfl))
  simp [strokeB,h,e]
theorem trimR_len (l:BS):(Lib.trimRightS l [92]).length+strokes l=l.length:=by
 have e:(fun c=>([92]:List UInt8).contains c)=strokeB:=funext contains_stroke
 unfold Lib.trimRightS strokes
 rw [e,List.length_reverse]
 have:=congrArg List.length (List.takeWhile_append_dropWhile (p:=strokeB) (l:=l.reverse))
 rw [List.length_append,List.length_reverse] at this
 omega
theorem suffix_odd {l:BS} (h:oddB l=true):Lib.trimSuffix l [92]=l.dropLast:=by
 obtain ⟨u,rfl⟩:=odd_last h
 unfold Lib.trimSuffix Lib.hasSuffix
 rw [if_pos (by rw [List.isSuffixOf_iff_suffix];exact List.suffix_append _ _),List.dropLast_concat]
 simp
theorem prefix_tab (l:BS):Lib.hasPrefix l [9]=tabL l:=by
 cases l with
 | nil=>rfl
 | cons c r =>
  show ([9]:List UInt8).isPrefixOf (c :: r)=((c :: r).head? == some 9)
  by_cases h:c=9
  ·subst h;simp [List.isPrefixOf]
  ·have h':(9 == c)=false:=by simpa using fun e:9=c=>h e.symm
   have h2:(c == 9)=false:=by simpa using h
   simp [List.isPrefixOf,h',h2]
theorem index_bare:∀ l:BS,(Lib.indexByte l 35=-1∧bareL l=l)∨(Lib.indexByte l 35=((bareL l).length:Nat)∧(bareL l).length < l.length∧l.take (bareL l).length=bareL l)
 | []=>.inl ⟨rfl,rfl⟩
 | c :: r=>by
  rw [bare_cons]
  unfold Lib.indexByte
  by_cases h:c=35
  ·subst h;right;simp
  ·rw [if_neg (by simpa using h),if_neg h]
   rcases index_bare r with ⟨h1,h2⟩ | ⟨h1,h2,h3⟩
   ·left;rw [h1,h2];exact ⟨rfl,rfl⟩
   ·right
    rw [h1,if_neg (by simp)]
    refine ⟨by simp,by simpa using h2,?_⟩
    rw [List.length_cons,List.take_succ_cons,h3]
theorem trimRight_any (s:ByteArray) (hs:s.size≤maxLen) (w:World):Calls Tryz.prog 97 #[.string s,.string ⟨#[92]⟩] w fun e w'=>(∃ t:ByteArray,e=.returned (.string t)∧t.size+strokes s.data.toList=s.size)∧Below w.heap.size w w':=by
 unfold maxLen at hs
 refine (Any.strings_TrimRight_laid lays162 (by kernel_rfl) s ⟨#[92]⟩ w (by omega) (by decide) (ascii_of_all (by decide))).mono ?_
 rintro e w' ⟨rfl,hb⟩
 refine ⟨⟨_,rfl,?_⟩,hb⟩
 have:=trimR_len s.data.toList
 rw [size_list] at this
 rw [← this]
 show (Lib.trimRightS s.data.toList [92]).toArray.size+_=_
 rw [List.size_toArray]
theorem trimSuffix_odd (s:ByteArray) (hs:s.size≤maxLen) (h:oddB s.data.toList=true) (w:World):Calls Tryz.prog 98 #[.string s,.string ⟨#[92]⟩] w fun e w'=>e=.returned (.string (txt s.data.toList.dropLast))∧w'=w:=by
 unfold maxLen at hs
 have:=Any.strings_TrimSuffix lays102 s ⟨#[92]⟩ w (by omega)
 rw [show (ByteArray.mk #[92]).data.toList=[92] from rfl,suffix_odd h] at this
 exact this
theorem hasPrefix_tab (s:ByteArray) (w:World):Calls Tryz.prog 40 #[.string s,.string ⟨#[9]⟩] w fun e w'=>e=.returned (.bool (tabL s.data.toList))∧w'=w:=by
 have:=Any.strings_HasPrefix lays99 s ⟨#[9]⟩ w
 rw [show (ByteArray.mk #[9]).data.toList=[9] from rfl,prefix_tab] at this
 exact this
theorem index_one (s:ByteArray) (i:Int) (h:Lib.indexByte s.data.toList 35=i) (w:World):Calls Tryz.prog 100 #[.string s,.string ⟨#[35]⟩] w fun e w'=>e=.returned (.int .i64 i)∧w'=w:=by
 have:=Any.stringslite_Index_one lays219 s 35 w
 rw [h] at this
 exact this
def CutPost (l:BS) (w:World) (e:Ending) (w':World):Prop:=(∃ r b,e=.returned (.tuple #[.string (txt l),.string r,.bool b]))∧Below w.heap.size w w'
set_option maxRecDepth 100000 in
set_option maxHeartbeats 1000000 in
theorem cutlite_anyE (s:ByteArray) (hs:s.size≤maxLen) (w:World):Calls Tryz.prog 66 #[.string s,.string ⟨#[35]⟩] w (CutPost (bareL s.data.toList) w):=by
 unfold maxLen at hs
 rcases index_bare s.data.toList with ⟨h1,h2⟩ | ⟨h1,h2,h3⟩
 ·have HI:=Lib.hid (index_one s _ h1)
  have HE:Hid (txt (bareL s.data.toList)=s):=by show _=_;rw [h2,txt_toList]
  clear h1 h2
  go_enter Tryz.func66,Tryz.ntmps66
  go_wp2_with (go_at_call 100;refine (HI.out _).mono ?_;rintro e w' ⟨rfl,rfl⟩)
  go_ret3
  exact ⟨⟨_,_,by rw [HE.out];rfl⟩,Below.refl _ _⟩
 ·have HI:=Lib.hid (index_one s _ h1)
  rw [size_list] at h2
  have HA:Hid (s.extract 0 (bareL s.data.toList).length=txt (bareL s.data.toList)):=by show _=_;rw [extract_txt];simp [h3]
  clear h1 h3
  generalize hn:(bareL s.data.toList).length=n at h2 HI HA
  have q1:n≤s.size:=by omega
  have q2:n+1≤s.size:=by omega
  clear hn h2
  go_enter Tryz.func66,Tryz.ntmps66
  go_wp2_with (go_at_call 100;refine (HI.out _).mono ?_;rintro e w' ⟨rfl,rfl⟩)
  go_quiet (fail)
  go_wp2
  go_ret3
  exact ⟨⟨_,_,by rw [← HA.out];rfl⟩,drewN_below _ _ _⟩
set_option maxRecDepth 100000 in
set_option maxHeartbeats 1000000 in
theorem cut_anyE (s:ByteArray) (hs:s.size≤maxLen) (w:World):Calls Tryz.prog 46 #[.string s,.string ⟨#[35]⟩] w (CutPost (bareL s.data.toList) w):=by
 have HC:=Lib.hid (cutlite_anyE s hs)
 clear hs
 go_enter Tryz.func46,Tryz.ntmps46
 go_wp2_with (go_at_call 66;refine (HC.out _).mono ?_;rintro e w' ⟨⟨r,b,rfl⟩,hb⟩)
 go_ret3
 exact ⟨⟨_,_,rfl⟩,hb⟩
def GoOnPost (l:BS) (w:World) (e:Ending) (w':World):Prop:=e=.returned (.tuple #[.string (txt (coreL l)),.bool (oddB l)])∧Below w.heap.size w w'
set_option maxRecDepth 100000 in
set_option maxHeartbeats 1000000 in
theorem goOn_any (s:ByteArray) (hs:s.size≤maxLen) (w:World):Calls Tryz.prog 64 #[.string s] w (GoOnPost s.data.toList w):=by
 cases ho:oddB s.data.toList with
 | false =>
  have HE:Hid (txt (coreL s.data.toList)=s∧oddB s.data.toList=false):=⟨by rw [core_even ho,txt_toList],ho⟩
  have HR:=Lib.hid (trimRight_any s hs w)
  have hk:strokes s.data.toList % 2=0:=by
   unfold oddB at ho
   simp at ho;omega
  unfold maxLen at hs
  generalize strokes s.data.toList=k at HR hk
  clear ho
  go_enter Tryz.func64,Tryz.ntmps64
  go_wp2_with fail
  refine HR.out.mono ?_
  rintro e w1 ⟨⟨t,rfl,ht⟩,hb⟩
  have e1:(s.size:Int) - (t.size:Int)=(k:Nat):=by omega
  have e2:Int.tmod (k:Nat) 2=0:=(Int.ofNat_tmod k 2).symm.trans (by rw [hk];rfl)
  go_wp2_with fail
  go_ret2
  exact ⟨by rw [HE.out.1,HE.out.2];rfl,hb⟩
 | true =>
  have HR:=Lib.hid (trimRight_any s hs w)
  have HS:=Lib.hid (fun w=>trimSuffix_odd s hs ho w)
  have HE:Hid (coreL s.data.toList=s.data.toList.dropLast∧oddB s.data.toList=true):=⟨core_odd ho,ho⟩
  have hk:strokes s.data.toList % 2=1:=by
   unfold oddB at ho
   simpa using ho
  unfold maxLen at hs
  generalize strokes s.data.toList=k at HR hk
  clear ho
  go_enter Tryz.func64,Tryz.ntmps64
  go_wp2_with fail
  refine HR.out.mono ?_
  rintro e w1 ⟨⟨t,rfl,ht⟩,hb⟩
  have e1:(s.size:Int) - (t.size:Int)=(k:Nat):=by omega
  have e2:Int.tmod (k:Nat) 2=1:=(Int.ofNat_tmod k 2).symm.trans (by rw [hk];rfl)
  go_wp2_with fail
  refine (HS.out w1).mono ?_
  rintro e w2 ⟨rfl,rfl⟩
  go_wp2_with fail
  go_ret2
  exact ⟨by rw [HE.out.1,HE.out.2];rfl,hb⟩
end Go.Proofs.YtmfjolmfbdbegaaGreatDoor

namespace Go.Proofs.YtmfjolmfbdbegaaGreatDoor
open Go.RowKit Go.Shelf
attribute [local go_sem] Oper.semAt_some
section
variable {w0 w w':World} {v:Value} {l:List BS}
end
theorem joinOf_is (P:List BS):joinOf (P.map txt)=joinP P:=by
 unfold joinOf Lib.join
 rw [join_is,List.map_map]
 congr 1
 conv=>rhs;rw [← List.map_id P]
 exact List.map_congr_left fun x _=>txt_data x
structure LinesAt (w:World) (b o c:Nat) (ls:List BS):Prop where
 lt:b < w.heap.size
 cap:ls.length≤c
 cell:∀ (j:Nat) x,ls[j]? = some x→w.cell? ⟨b,o+j,none⟩=some (.string (txt x))
theorem LinesAt.below {w w':World} {b o c:Nat} {ls:List BS} (h:LinesAt w b o c ls) (hb:Below w.heap.size w w'):LinesAt w' b o c ls :=
 ⟨Nat.lt_of_lt_of_le h.lt hb.size,h.cap,fun j x hj=>(hb.cell (p:=⟨b,o+j,none⟩) h.lt).trans (h.cell j x hj)⟩
def TogPost (a:BS) (r:List BS) (w:World) (e:Ending) (w':World):Prop:=e=.returned (.tuple #[.string (txt (trimOf (glue a r).1)),.int .i64 (((glue a r).2+1:Nat))])∧Below w.heap.size w w'
set_option maxRecDepth 100000 in
set_option maxHeartbeats 2000000 in
theorem together_anyE (b o c n:Nat) (a:BS) (r:List BS) (hn:n=r.length+1) (w:World) (h:LinesAt w b o c (a :: r)) (hr:r.length≤1000000) (hl:∀ l∈a :: r,l.length≤1000000) :
  Calls Tryz.prog 45 #[.slice (some ⟨b,o,none⟩) n c] w (TogPost a r w):=by
 have hcap:n≤c:=by have:=h.cap;simp at this;omega
 have hn31:n≤1000001:=by omega
 have HX:Hid (∀ W,Below w.heap.size w W→∀ (j:Nat) x,(a :: r)[j]? = some x→W.cell? ⟨b,o+j,none⟩=some (.string (txt x))):=fun W hb=>(h.below hb).cell
 have HN:Hid (n=r.length+1∧(a :: r).length=n):=⟨hn,by simp [hn]⟩
 have HL:=Lib.hid hl
 have HG:Hid ((trimOf (glue a r).1).length≤140737488355328):=by
  have h1:=trim_len (glue a r).1
  have h2:=glue_len 1000000 r a (fun l hm=>hl l (List.mem_cons_of_mem _ hm))
  have h3:=hl a (by simp)
  have h4:r.length*(1000000+1)≤1000000*(1000000+1):=Nat.mul_le_mul_right _ hr
  show _≤_
  omega
 clear h hr hl hn
 go_enter Tryz.func45,Tryz.ntmps45
 go_wp2_with fail
 go_loopw [4,5,6] (fun pv i g wr=>∃ (k:Nat) (gb:Bool) (P:List BS),k≤n∧i=.int .i64 k∧g=.bool gb∧Put a r k gb P∧RowS w wr pv P) (fun _ i _ _=>n - (intOf i).toNat)
 case atStart=>exact ⟨0,true,[],Nat.zero_le _,rfl,rfl,Put.start a r,RowS.start (Below.refl _ _)⟩
 case round =>
  obtain ⟨k,gb,P,hk,rfl,rfl,hP,hR0⟩:=hrel
  obtain ⟨qo,qc,rfl,hR⟩:=hR0.slice
  clear hR0
  have HE:∀ (_:gb=false∨r.length < k),Hid (k=(glue a r).2+1∧joinP P=trimOf (glue a r).1∧Calls Tryz.prog 65 #[.slice qo P.length qc] wr (fun e w'=>e=.returned (.string (txt (trimOf (glue a r).1)))∧Below wr.heap.size wr w')∧Below w.heap.size w wr):=by
   intro he
   obtain ⟨h1,h2⟩:=hP.done he
   have hJ:=textJoin_any (.slice qo P.length qc) (P.map txt) wr hR.reads (by have:=hP.few;rw [List.length_map];omega) (by rw [joinOf_is,h2];exact HG.out)
   rw [joinOf_is,h2] at hJ
   exact ⟨h1,h2,hJ,hR.2⟩
  cases gb with
  | false =>
   have HE':=HE (.inl rfl)
   clear HE hP hR HX HL HG HN
   go_wp2_with fail
   refine HE'.out.2.2.1.mono ?_
   rintro e w1 ⟨rfl,hb1⟩
   go_wp2_with fail
   go_ret2
   exact ⟨by rw [← HE'.out.1];rfl,HE'.out.2.2.2.trans (hb1.mono HE'.out.2.2.2.size)⟩
  | true =>
   by_cases hlt:k < n
   ·obtain ⟨lb,hlb⟩:∃ lb,(a :: r)[k]? = some lb:=⟨(a :: r)[k]'(by rw [HN.out.2];exact hlt),List.getElem?_eq_getElem _⟩
    have hcell:=HX.out wr hR.2 k lb hlb
    have hlen:lb.length≤1000000:=HL.out lb (List.mem_of_getElem? hlb)
    have hG:=goOn_any (txt lb) (by rw [txt_size];unfold maxLen;omega) wr
    rw [txt_data] at hG
    have hcl:(coreL lb).length≤1000000:=by
     unfold coreL
     split
     ·rw [List.length_dropLast];omega
     ·exact hlen
    have HT:Hid (∀ W,Calls Tryz.prog 47 #[.string (txt (coreL lb))] W fun e w'=>e=.returned (.string (txt (pieceL lb)))∧Below W.heap.size W w'):=fun W=>by
     have:=trim_any (txt (coreL lb)) (by rw [txt_size];unfold maxLen;omega) W
     rw [txt_data] at this
     exact this
    have HGo:=Lib.hid hG
    clear HE hG HX HL HG hcl hlen
    by_cases hp:pieceL lb=[]
    ·have HP:=Lib.hid (hP.skip hlb hp)
     have HR:=Lib.hid hR
     have hp1:(txt (pieceL lb)).toList=[]:=by rw [txt_toL];exact hp
     clear hP hR hlb hp
     go_wp2_with fail
     refine HGo.out.mono ?_
     rintro e w1 ⟨rfl,hb1⟩
     go_wp2_with fail
     refine (HT.out w1).mono ?_
     rintro e w2 ⟨rfl,hb2⟩
     go_wp2_with fail
     go_roundw
     case rel=>exact ⟨k+1,_,P,hlt,by go_num,rfl,HP.out,(HR.out.below hb1).below hb2⟩
     case measure=>simp [intOf];omega
    ·have HP:=Lib.hid (hP.next hlb hp)
     have HR:=Lib.hid hR
     have hPl:=hP.few
     have hp1:(txt (pieceL lb)).toList.isEmpty=false:=by rw [txt_toL];simpa using hp
     clear hP hR hlb hp
     go_wp2_with fail
     refine HGo.out.mono ?_
     rintro e w1 ⟨rfl,hb1⟩
     go_wp2_with fail
     refine (HT.out w1).mono ?_
     rintro e w2 ⟨rfl,hb2⟩
     obtain ⟨po,pc,w3,hrun,hR3⟩:=((HR.out.below hb1).below hb2).push (pieceL lb) (by omega) 28
     have HR3:=Lib.hid hR3
     clear hR3
     go_wp2_with (first
      | (at_builtin;refine wpList_append_eq rfl _ _ 28 rfl _ _ _ w3 rfl rfl hrun ?_)
      | go_in)
     go_roundw
     case rel=>exact ⟨k+1,_,_,hlt,by go_num,rfl,HP.out,HR3.out⟩
     case measure=>simp [intOf];omega
   ·have HE':=HE (.inr (by have:=HN.out.1;omega))
    clear HE hP hR HX HL HG HN
    go_wp2_with fail
    refine HE'.out.2.2.1.mono ?_
    rintro e w1 ⟨rfl,hb1⟩
    go_wp2_with fail
    go_ret2
    exact ⟨by rw [← HE'.out.1];rfl,HE'.out.2.2.2.trans (hb1.mono HE'.out.2.2.2.size)⟩
end Go.Proofs.YtmfjolmfbdbegaaGreatDoor

namespace Go.Proofs.YtmfjolmfbdbegaaGreatDoor
open Go.RowKit Go.Shelf
attribute [local go_sem] Oper.semAt_some
def FirstPost (a:BS) (r:List BS) (w:World) (e:Ending) (w':World):Prop :=
 e=.returned (.tuple #[.agg #[.int .i64 0,.bool (tabL a),.string (txt (textL (tabL a) (glue a r).1))],.int .i64 (((glue a r).2+1:Nat))])∧Below w.heap.size w w'
structure TwoL (w wr:World) (k:Nat) (tab:Bool) (x:ByteArray):Prop where
 back:Below w.heap.size w wr
 lt:w.heap.size < k
 zero:wr.heap[w.heap.size]? = some (.cells #[.int .i64 0,.bool false,.string ⟨#[]⟩] 70 (0,0))
 own:wr.heap[k]? = some (.cells #[.int .i64 0,.bool tab,.string x] 70 (0,0))
section
variable {w wr w':World} {k:Nat} {tab:Bool} {x:ByteArray}
theorem TwoL.below (h:TwoL w wr k tab x) (hb:Below wr.heap.size wr w'):TwoL w w' k tab x :=
 ⟨h.back.trans (hb.mono h.back.size),h.lt,(hb.block _ (Array.getElem?_eq_some_iff.1 h.zero).1).trans h.zero,(hb.block _ (Array.getElem?_eq_some_iff.1 h.own).1).trans h.own⟩
theorem TwoL.cells (h:TwoL w wr k tab x):(wr.cell? ⟨k,0,none⟩=some (.int .i64 0)∧wr.cell? ⟨k,1,none⟩=some (.bool tab)∧wr.cell? ⟨k,2,none⟩=some (.string x)) ∧
  (wr.cell? ⟨w.heap.size,0,none⟩=some (.int .i64 0)∧wr.cell? ⟨w.heap.size,1,none⟩=some (.bool false)∧wr.cell? ⟨w.heap.size,2,none⟩=some (.string ⟨#[]⟩)) ∧
  (∀ j,wr.frozen? ⟨k,j,none⟩=false)∧∀ j,wr.frozen? ⟨w.heap.size,j,none⟩=false:=by
 refine ⟨⟨?_,?_,?_⟩,⟨?_,?_,?_⟩,Lib.frozen_of_heap h.own,Lib.frozen_of_heap h.zero⟩ <;> (first | rw [Lib.cell_of_heap h.own] | rw [Lib.cell_of_heap h.zero]) <;> rfl
theorem TwoL.done (h:TwoL w wr k tab x) (y a b c:Value) :
  Below w.heap.size w ((((wr.setCell ⟨k,2,none⟩ y).setCell ⟨w.heap.size,0,none⟩ a).setCell ⟨w.heap.size,1,none⟩ b).setCell ⟨w.heap.size,2,none⟩ c) ∧
   ((((wr.setCell ⟨k,2,none⟩ y).setCell ⟨w.heap.size,0,none⟩ a).setCell ⟨w.heap.size,1,none⟩ b).setCell ⟨w.heap.size,2,none⟩ c).cell? ⟨w.heap.size,0,none⟩=some a ∧
   ((((wr.setCell ⟨k,2,none⟩ y).setCell ⟨w.heap.size,0,none⟩ a).setCell ⟨w.heap.size,1,none⟩ b).setCell ⟨w.heap.size,2,none⟩ c).cell? ⟨w.heap.size,1,none⟩=some b ∧
   ((((wr.setCell ⟨k,2,none⟩ y).setCell ⟨w.heap.size,0,none⟩ a).setCell ⟨w.heap.size,1,none⟩ b).setCell ⟨w.heap.size,2,none⟩ c).cell? ⟨w.heap.size,2,none⟩=some c:=by
 have hne:k≠w.heap.size:=by have:=h.lt;omega
 have hz:=h.zero
 have hh:((((wr.setCell ⟨k,2,none⟩ y).setCell ⟨w.heap.size,0,none⟩ a).setCell ⟨w.heap.size,1,none⟩ b).setCell ⟨w.heap.size,2,none⟩ c).heap[w.heap.size]? = some (.cells #[a,b,c] 70 (0,0)):=by
  generalize w.heap.size=z at hz hne ⊢
  simp [World.setCell,Array.getElem?_modify,hz,hne]
 have hT:Turned (fun n=>w.heap.size≤n) wr ((((wr.setCell ⟨k,2,none⟩ y).setCell ⟨w.heap.size,0,none⟩ a).setCell ⟨w.heap.size,1,none⟩ b).setCell ⟨w.heap.size,2,none⟩ c) :=
  (((Turned.setCell (X:=fun n=>w.heap.size≤n) wr ⟨k,2,none⟩ y (Nat.le_of_lt h.lt)).trans (Turned.setCell (X:=fun n=>w.heap.size≤n) _ ⟨w.heap.size,0,none⟩ a (Nat.le_refl _))).trans
   (Turned.setCell (X:=fun n=>w.heap.size≤n) _ ⟨w.heap.size,1,none⟩ b (Nat.le_refl _))).trans (Turned.setCell (X:=fun n=>w.heap.size≤n) _ ⟨w.heap.size,2,none⟩ c (Nat.le_refl _))
 exact ⟨h.back.trans (hT.below h.back.size fun n hn=>hn),by rw [Lib.cell_of_heap hh];rfl,by rw [Lib.cell_of_heap hh];rfl,by rw [Lib.cell_of_heap hh];rfl⟩
end
set_option maxRecDepth 100000 in
set_option maxHeartbeats 2000000 in
theorem first_any (b o c n:Nat) (a:BS) (r:List BS) (hn:n=r.length+1) (w:World) (h:LinesAt w b o c (a :: r)) (hr:r.length≤1000000) (hl:∀ l∈a :: r,l.length≤1000000) :
  Calls Tryz.prog 27 #[.slice (some ⟨b,o,none⟩) n c] w (FirstPost a r w):=by
 have hn0:0 < n:=by omega
 have hcap:n≤c:=by have:=h.cap;simp at this;omega
 have hn31:n≤1000001:=by omega
 have HT:Hid (∀ W,Below w.heap.size w W→Calls Tryz.prog 45 #[.slice (some ⟨b,o,none⟩) n c] W (TogPost a r W)):=fun W hb=>together_anyE b o c n a r hn W (h.below hb) hr hl
 have HX:Hid (∀ W,Below w.heap.size w W→W.cell? ⟨b,o,none⟩=some (.string (txt a))):=fun W hb=>by
  have:=(h.below hb).cell 0 a rfl
  rwa [Nat.add_zero] at this
 have hG:(trimOf (glue a r).1).length≤140737488355328:=by
  have h1:=trim_len (glue a r).1
  have h2:=glue_len 1000000 r a (fun l hm=>hl l (List.mem_cons_of_mem _ hm))
  have h3:=hl a (by simp)
  have h4:r.length*(1000000+1)≤1000000*(1000000+1):=Nat.mul_le_mul_right _ hr
  omega
 have HE:Hid (textL (tabL a) (glue a r).1=textL (tabL a) (trimOf (glue a r).1)):=(text_trim _ _).symm
 clear h hr hl hn
 go_enter Tryz.func27,Tryz.ntmps27
 go_wp2_with fail
 refine (HT.out _ ((Below.refl _ w).alloc (Nat.le_refl _) _)).mono ?_
 rintro e w1 ⟨rfl,hb1⟩
 generalize hg:trimOf (glue a r).1=gx at HE hG
 clear hg
 have c0:=HX.out w1 (((Below.refl _ w).alloc (Nat.le_refl _) _).trans (hb1.mono (by simp)))
 have HP:=Lib.hid (hasPrefix_tab (txt a))
 rw [txt_data] at HP
 go_wp2_with fail
 refine (HP.out w1).mono ?_
 rintro e w2 ⟨rfl,rfl⟩
 have HZ:Hid (w2.heap[w.heap.size]? = some (.cells #[.int .i64 0,.bool false,.string ⟨#[]⟩] 70 (0,0))):=(hb1.block _ (by simp)).trans (World.alloc_heap_new w _)
 have HB:Hid (Below w.heap.size w w2):=((Below.refl _ w).alloc (Nat.le_refl _) _).trans (hb1.mono (by simp))
 have h02:w.heap.size < w2.heap.size:=by have:=hb1.size;rw [World.size_alloc] at this;omega
 have HW:Hid (∀ tab,TwoL w (w2.alloc (.cells #[.int .i64 0,.bool tab,.string ⟨#[]⟩] 70)) w2.heap.size tab ⟨#[]⟩):=fun tab =>
  ⟨HB.out.alloc HB.out.size _,h02,(Below.heap_alloc _ _ _ h02).trans HZ.out,World.alloc_heap_new w2 _⟩
 clear HX HT hb1 HZ HB
 have hgl:=glue_le r a
 obtain ⟨m,hm⟩:∃ m,m=(glue a r).2:=⟨_,rfl⟩
 rw [← hm] at hgl ⊢
 have HR:Hid (∀ z:ByteArray,z.data.toList=(if tabL a then gx else bareL gx)→∀ W,Calls Tryz.prog 47 #[.string z] W fun e w'=>e=.returned (.string (txt (textL (tabL a) gx)))∧Below W.heap.size W w'):=fun z hz W=>by
  have hl:z.data.toList.length≤140737488355328:=by
   rw [hz]
   split
   ·exact hG
   ·exact Nat.le_trans (List.takeWhile_sublist _).length_le hG
  rw [size_list] at hl
  have:=trim_any z (by unfold maxLen;omega) W
  rw [hz] at this
  exact this
 have HC:=Lib.hid (fun W=>cut_anyE (txt gx) (by rw [txt_size];unfold maxLen;omega) W)
 rw [txt_data] at HC
 have HPost:Hid (∀ W,Below w.heap.size w W→FirstPost a r w (.returned (.tuple #[.agg #[.int .i64 0,.bool (tabL a),.string (txt (textL (tabL a) gx))],.int .i64 ((m:Int)+1)])) W):=fun W hb=>by
  refine ⟨?_,hb⟩
  rw [HE.out,hm]
  rfl
 clear hm
 generalize textL (tabL a) gx=X at HR HPost
 cases ht:tabL a with
 | true =>
  rw [ht] at HR HPost
  have HTr:Hid (∀ W,Calls Tryz.prog 47 #[.string (txt gx)] W fun e w'=>e=.returned (.string (txt X))∧Below W.heap.size W w'):=HR.out (txt gx) (by rw [txt_data];rfl)
  have HW2:=Lib.hid (HW.out true)
  clear HR HC HW HE
  go_wp2_with fail
  refine (HTr.out _).mono ?_
  rintro e w3 ⟨rfl,hb3⟩
  have hL:=HW2.out.below hb3
  obtain ⟨⟨c0',c1',c2'⟩,⟨z0,z1,z2⟩,fk,fz⟩:=hL.cells
  have HD:=Lib.hid (hL.done (.string (txt X)) (.int .i64 0) (.bool true) (.string (txt X)))
  clear hL hb3
  go_wp2_with fail
  obtain ⟨hbk,q0,q1,q2⟩:=HD.out
  exact bodyPost_ret (v:=.tuple #[.agg #[.int .i64 0,.bool true,.string (txt X)],.int .i64 ((m:Int)+1)]) (by simp [results,Tryz.results27,go_sem,q0,q1,q2]) rfl (HPost.out _ hbk)
 | false =>
  rw [ht] at HR HPost
  have HTr:Hid (∀ W,Calls Tryz.prog 47 #[.string (txt (bareL gx))] W fun e w'=>e=.returned (.string (txt X))∧Below W.heap.size W w'):=HR.out (txt (bareL gx)) (by rw [txt_data];rfl)
  have HW2:=Lib.hid (HW.out false)
  clear HR HW HE
  go_wp2_with fail
  refine (HC.out _).mono ?_
  rintro e w4 ⟨⟨cr,cb,rfl⟩,hb4⟩
  have hL4:=HW2.out.below hb4
  obtain ⟨⟨c0',c1',c2'⟩,⟨z0,z1,z2⟩,fk,fz⟩:=id hL4.cells
  have HL4:=Lib.hid hL4
  clear hL4 hb4
  go_wp2_with fail
  refine (HTr.out _).mono ?_
  rintro e w3 ⟨rfl,hb3⟩
  have hL:=HL4.out.below hb3
  clear c0' c1' c2' z0 z1 z2 fk fz
  obtain ⟨⟨c0',c1',c2'⟩,⟨z0,z1,z2⟩,fk,fz⟩:=hL.cells
  have HD:=Lib.hid (hL.done (.string (txt X)) (.int .i64 0) (.bool false) (.string (txt X)))
  clear hL hb3
  go_wp2_with fail
  obtain ⟨hbk,q0,q1,q2⟩:=HD.out
  exact bodyPost_ret (v:=.tuple #[.agg #[.int .i64 0,.bool false,.string (txt X)],.int .i64 ((m:Int)+1)]) (by simp [results,Tryz.results27,go_sem,q0,q1,q2]) rfl (HPost.out _ hbk)
end Go.Proofs.YtmfjolmfbdbegaaGreatDoor

namespace Go.Proofs.YtmfjolmfbdbegaaGreatDoor
open Go.RowKit Go.Shelf
attribute [local go_sem] Oper.semAt_some
theorem RowI.slice {w0 w:World} {v:Value} {l:List Item} (h:RowI w0 w v l):∃ o c,v=.slice o l.length c∧RowI w0 w (.slice o l.length c) l:=by
 obtain ⟨o,c,hv,_⟩:=h.1.shape (fun _=>rfl)
 exact ⟨o,c,hv,hv ▸ h⟩
theorem RowI.own {w0 w w':World} {v:Value} {l:List Item} (h:RowI w0 w v l) (hT:Turned (fun n=>w.heap.size≤n) w w'):RowI w0 w' v l :=
 ⟨(h.1.kept hT (fun n hn hx=>by omega)).wider (fun _ hn=>⟨hn.1,Nat.lt_of_lt_of_le hn.2 hT.size⟩),h.2.trans (hT.below h.2.size (fun n hn=>Nat.le_trans h.2.size hn))⟩
theorem LinesAt.drop {w:World} {b o c k:Nat} {ls:List BS} (h:LinesAt w b o c ls) (hk:k < ls.length):LinesAt w b (o+k) (c - k) (ls.drop k) :=
 ⟨h.lt,by have:=h.cap;rw [List.length_drop];omega,fun j x hj=>by
  rw [List.getElem?_drop] at hj
  rw [Nat.add_assoc]
  exact h.cell (k+j) x hj⟩
theorem LexPost.ok {w w1 w':World} {s:BS} {acc:List Item} {o:Option Addr} {c:Nat} (h:lexOf s=(acc,0,0)) (hb:Below w.heap.size w w1) (hR:RowI w1 w' (.slice o acc.length c) acc):LexPost w s (.returned (.tuple #[.slice o acc.length c,.int .i64 0,.int .i64 0])) w':=by
 refine ⟨o,c,by rw [h];rfl,by rw [h];exact hR.reads,hb.trans (hR.back.mono hb.size)⟩
theorem LexPost.err {w w1 w':World} {s:BS} {k:Nat} (h:lexOf s=([],3,k+1)) (hb:Below w.heap.size w w1) (hR:Below w1.heap.size w1 w'):LexPost w s (.returned (.tuple #[.slice none 0 0,.int .i64 3,.int .i64 ((k:Int)+1)])) w':=by
 refine ⟨none,0,by rw [h];rfl,by rw [h];exact ReadsI.empty _ _,hb.trans (hR.mono hb.size)⟩
theorem line_set {wr w1:World} (t:Bool) (x:ByteArray) (hb:Below (wr.alloc (.cells #[.int .i64 0,.bool false,.string ⟨#[]⟩] 70)).heap.size (wr.alloc (.cells #[.int .i64 0,.bool false,.string ⟨#[]⟩] 70)) w1) (v:Value) :
  ((((w1.setCell ⟨wr.heap.size,0,none⟩ (.int .i64 0)).setCell ⟨wr.heap.size,1,none⟩ (.bool t)).setCell ⟨wr.heap.size,2,none⟩ (.string x)).setCell ⟨wr.heap.size,0,none⟩ v).heap[wr.heap.size]? = some (.cells #[v,.bool t,.string x] 70 (0,0)) ∧
  Turned (fun n=>wr.heap.size≤n) wr ((((w1.setCell ⟨wr.heap.size,0,none⟩ (.int .i64 0)).setCell ⟨wr.heap.size,1,none⟩ (.bool t)).setCell ⟨wr.heap.size,2,none⟩ (.string x)).setCell ⟨wr.heap.size,0,none⟩ v) ∧
  w1.heap[wr.heap.size]? = some (.cells #[.int .i64 0,.bool false,.string ⟨#[]⟩] 70 (0,0)):=by
 have hz:w1.heap[wr.heap.size]? = some (.cells #[.int .i64 0,.bool false,.string ⟨#[]⟩] 70 (0,0)):=(hb.block _ (by simp)).trans (World.alloc_heap_new wr _)
 refine ⟨?_,?_,hz⟩
 ·generalize wr.heap.size=z at hz ⊢
  simp [World.setCell,Array.getElem?_modify,hz]
 ·have h1:Turned (fun n=>wr.heap.size≤n) wr w1:=(Turned.alloc _ wr _).trans ⟨hb.os,hb.tape,hb.output,hb.size,fun k hk _=>hb.block k hk⟩
  exact (((h1.trans (Turned.setCell (X:=fun n=>wr.heap.size≤n) w1 ⟨wr.heap.size,0,none⟩ (.int .i64 0) (Nat.le_refl _))).trans (Turned.setCell (X:=fun n=>wr.heap.size≤n) _ ⟨wr.heap.size,1,none⟩ (.bool t) (Nat.le_refl _))).trans
   (Turned.setCell (X:=fun n=>wr.heap.size≤n) _ ⟨wr.heap.size,2,none⟩ (.string x) (Nat.le_refl _))).trans (Turned.setCell (X:=fun n=>wr.heap.size≤n) _ ⟨wr.heap.size,0,none⟩ v (Nat.le_refl _))
theorem zero_cells {w:World} {z:Nat} (h:w.heap[z]? = some (.cells #[.int .i64 0,.bool false,.string ⟨#[]⟩] 70 (0,0))) :
  w.cell? ⟨z,0,none⟩=some (.int .i64 0)∧w.cell? ⟨z,1,none⟩=some (.bool false)∧w.cell? ⟨z,2,none⟩=some (.string ⟨#[]⟩)∧∀ j,w.frozen? ⟨z,j,none⟩=false:=by
 refine ⟨?_,?_,?_,Lib.frozen_of_heap h⟩ <;> rw [Lib.cell_of_heap h] <;> rfl
set_option maxRecDepth 100000 in
set_option maxHeartbeats 4000000 in
theorem lex_any:LexC:=by
 intro s w hs
 have HLn:Hid (Calls Tryz.prog 26 #[.string s] w fun e W'=>∃ v,e=.returned v∧Reads W' W'.heap.size v ((linesL s.data.toList).map txt)∧Below w.heap.size w W'):=by
  have:=lines_any s (by omega) w
  rwa [linesOf_is] at this
 have hcnt:(linesL s.data.toList).length≤1000001:=by
  have h1:=lines_count s.data.toList
  have h2:s.data.toList.countP nlB≤s.data.toList.length:=List.countP_le_length
  rw [size_list] at h2
  omega
 have HM:Hid (∀ l∈linesL s.data.toList,l.length≤1000000):=fun l hl=>by
  have:=lines_short l hl
  rw [size_list] at this
  omega
 have HN0:Hid (linesL s.data.toList=[]→lexOf s.data.toList=([],0,0)):=fun h=>Sofar.done (Sofar.start _) (by rw [h];exact Nat.le_refl _)
 have HS0:=Lib.hid (Sofar.start (linesL s.data.toList))
 have HS1:Hid (∀ k acc,Sofar (linesL s.data.toList) k acc→(linesL s.data.toList).length≤k→lexOf s.data.toList=(acc,0,0)):=fun k acc h hk=>h.done hk
 have HS2:Hid (∀ k acc a,Sofar (linesL s.data.toList) k acc→(linesL s.data.toList)[k]? = some a→textL (tabL a) (glue a ((linesL s.data.toList).drop (k+1))).1≠[]→(1000 < (textL (tabL a) (glue a ((linesL s.data.toList).drop (k+1))).1).length∨300≤acc.length)→lexOf s.data.toList=([],3,k+1)):=fun k acc a h h1 h2 h3=>h.wrong h1 h2 h3
 generalize linesL s.data.toList=ls at *
 go_enter Tryz.func16,Tryz.ntmps16
 go_wp2
 go_step3
 go_wp2_with fail
 refine HLn.out.mono ?_
 rintro e w1 ⟨v,rfl,hr,hb⟩
 rcases hr with ⟨rfl,hnil⟩ | ⟨b,o,c,rfl,hlt,hc,hx⟩
 ·have hls:ls=[]:=by simpa using hnil
  have HE:=Lib.hid (HN0.out hls)
  subst hls
  clear HLn HM HS1 HS2 HN0 hnil
  have HPost:Hid (∀ (acc:List Item) o c W,Sofar [] 0 acc→RowI w1 W (.slice o acc.length c) acc→LexPost w s.data.toList (.returned (.tuple #[.slice o acc.length c,.int .i64 0,.int .i64 0])) W):=fun acc o c W h hR =>
   LexPost.ok (by
    have h1:=h.items
    simp only [List.drop_nil,items_nil,List.append_nil] at h1
    rw [← h1];exact HE.out) hb hR
  clear HE hb
  go_wp2
  go_step3
  go_wp2
  go_loopw [5,6,8,9] (fun av wg st sz wr=>∃ (j:Int) (acc:List Item),wg=.int .i64 0∧st=.int .i64 0∧sz=.int .i64 j∧Sofar [] 0 acc∧RowI w1 wr av acc) (fun _ _ _ _ _=>0)
  case atStart=>exact ⟨0,[],rfl,rfl,rfl,HS0.out,RowI.start (Below.refl _ _)⟩
  case round =>
   obtain ⟨j,acc,rfl,rfl,rfl,hS,hR0⟩:=hrel
   obtain ⟨qo,qc,rfl,hR⟩:=hR0.slice
   have HQ:=Lib.hid (HPost.out acc qo qc _ hS hR)
   clear hR0 hS hR
   go_wp2
   try rw [Exit.noGoto_ret]
   go_ret3
   exact HQ.out
 ·rw [List.length_map] at hc ⊢
  have hLA:LinesAt w1 b o c ls:=⟨hlt,hc,fun j x hj=>hx j _ (by rw [List.getElem?_map,hj];rfl)⟩
  have HLA:Hid (∀ W,Below w1.heap.size w1 W→LinesAt W b o c ls):=fun W h=>hLA.below h
  obtain ⟨n,hn⟩:∃ n,n=ls.length:=⟨_,rfl⟩
  have HB:=Lib.hid hb
  rw [← hn] at hcnt hc
  have HN:=Lib.hid hn
  have e1:Value.slice (some ⟨b,o,none⟩) ls.length c=.slice (some ⟨b,o,none⟩) n c:=by rw [hn]
  rw [e1]
  clear HLn HN0 hx hLA hb hlt e1 hn
  go_wp2
  go_step3
  go_wp2
  go_loopw [5,6,8,9] (fun av wg st sz wr=>∃ (k:Nat) (j:Int) (acc:List Item),k≤n∧wg=.int .i64 0∧st=.int .i64 k∧sz=.int .i64 j∧Sofar ls k acc∧RowI w1 wr av acc) (fun _ _ st _ _=>n - (intOf st).toNat)
  case atStart=>exact ⟨0,0,[],Nat.zero_le _,rfl,rfl,rfl,HS0.out,RowI.start (Below.refl _ _)⟩
  case round =>
   obtain ⟨k,j,acc,hk,rfl,rfl,rfl,hS,hR0⟩:=hrel
   obtain ⟨qo,qc,rfl,hR⟩:=hR0.slice
   clear hR0
   have hal:=hS.len
   by_cases hlk:k < n
   ·obtain ⟨a,ha⟩:∃ a,ls[k]? = some a:=⟨ls[k]'(by rw [← HN.out];exact hlk),List.getElem?_eq_getElem _⟩
    obtain ⟨r,hr⟩:∃ r,r=ls.drop (k+1):=⟨_,rfl⟩
    have hd:ls.drop k=a :: r:=by rw [hr];exact drop_at ha
    have hrl:r.length=n - (k+1):=by rw [hr,List.length_drop,HN.out]
    have hLk:=(HLA.out wr hR.back).drop (k:=k) (by rw [← HN.out];exact hlk)
    rw [hd] at hLk
    have HF:Hid (∀ W,Below wr.heap.size wr W→Calls Tryz.prog 27 #[.slice (some ⟨b,o+k,none⟩) (n - k) (c - k)] W (FirstPost a r W)):=fun W h =>
     first_any b (o+k) (c - k) (n - k) a r (by omega) W (hLk.below h) (by omega) (fun l hl=>HM.out l (List.mem_of_mem_drop (hd ▸ hl:l∈ls.drop k)))
    have hgl:=glue_le r a
    obtain ⟨m,hm⟩:∃ m,m=(glue a r).2:=⟨_,rfl⟩
    obtain ⟨tb,htb⟩:∃ tb,tb=tabL a:=⟨_,rfl⟩
    obtain ⟨X,hX⟩:∃ X,X=textL (tabL a) (glue a r).1:=⟨_,rfl⟩
    have HF2:Hid (∀ W,Below wr.heap.size wr W→Calls Tryz.prog 27 #[.slice (some ⟨b,o+k,none⟩) (n - k) (c - k)] W fun e w'=>e=.returned (.tuple #[.agg #[.int .i64 0,.bool tb,.string (txt X)],.int .i64 ((m:Int)+1)])∧Below W.heap.size W w'):=fun W h=>by
     refine (HF.out W h).mono ?_
     rintro e w' ⟨rfl,hb⟩
     refine ⟨?_,hb⟩
     rw [hm,htb,hX];rfl
    rw [← hm] at hgl
    have HR:=Lib.hid hR
    have Hskip:Hid (X=[]→Sofar ls (k+1+m) acc):=fun h=>by
     have:=hS.skip ha (by rw [← hr,← hX];exact h)
     rwa [← hr,← hm] at this
    have Hnext:Hid (X≠[]→X.length≤1000→acc.length < 300→Sofar ls (k+1+m) (acc++[(k+1,tb,X)])):=fun h1 h2 h3=>by
     have:=hS.next ha (by rw [← hr,← hX];exact h1) (by rw [← hr,← hX];exact h2) h3
     rwa [← hr,← hm,← hX,← htb] at this
    have Hwrong:Hid (X≠[]→(1000 < X.length∨300≤acc.length)→lexOf s.data.toList=([],3,k+1)):=fun h1 h2 =>
     HS2.out k acc a hS ha (by rw [← hr,← hX];exact h1) (by rw [← hr,← hX];exact h2)
    have hkm:k+1+m≤n:=by omega
    clear hm htb hX HF hLk hd hr hrl ha hS HS1 HS2 HM HLA HS0 HN hR
    by_cases hX0:X=[]
    ·have hX1:(txt X).toList=[]:=by rw [txt_toL];exact hX0
     have HSk:=Lib.hid (Hskip.out hX0)
     clear Hskip Hnext Hwrong hX0
     go_wp2_with fail
     refine (HF2.out _ ((Below.refl _ wr).alloc (Nat.le_refl _) _)).mono ?_
     rintro e w2 ⟨rfl,hb2⟩
     obtain ⟨hL,hT,hz⟩:=line_set tb (txt X) hb2 (.int .i64 ((k:Int)+1))
     obtain ⟨c0,c1,c2,fz⟩:=zero_cells hz
     have HL:=Lib.hid hL
     have HT:=Lib.hid hT
     clear hL hT hz hb2
     go_wp2_with fail
     go_roundw
     case rel=>exact ⟨k+1+m,(m:Int)+1,acc,hkm,rfl,by go_num,rfl,HSk.out,HR.out.own HT.out⟩
     case measure=>simp [intOf];omega
    ·have hX1:(txt X).toList.isEmpty=false:=by rw [txt_toL];simpa using hX0
     by_cases hlong:1000 < X.length
     ·have HQ:Hid (∀ W,Turned (fun q=>wr.heap.size≤q) wr W→LexPost w s.data.toList (.returned (.tuple #[.slice none 0 0,.int .i64 3,.int .i64 ((k:Int)+1)])) W):=fun W hW =>
       LexPost.err (Hwrong.out hX0 (.inl hlong)) HB.out (HR.out.own hW).back
      have hs1:1000 < (txt X).size:=by rw [txt_size];exact hlong
      clear Hskip Hnext Hwrong hX0
      go_wp2_with fail
      refine (HF2.out _ ((Below.refl _ wr).alloc (Nat.le_refl _) _)).mono ?_
      rintro e w2 ⟨rfl,hb2⟩
      obtain ⟨hL,hT,hz⟩:=line_set tb (txt X) hb2 (.int .i64 ((k:Int)+1))
      obtain ⟨c0,c1,c2,fz⟩:=zero_cells hz
      have HL:=Lib.hid hL
      have HT:=Lib.hid hT
      clear hL hT hz hb2
      go_wp2_with fail
      try rw [Exit.noGoto_ret]
      go_ret3
      exact HQ.out _ HT.out
     ·have hs1:¬ 1000 < (txt X).size:=by rw [txt_size];exact hlong
      by_cases hmany:acc.length < 300
      ·have HSn:=Lib.hid (Hnext.out hX0 (by omega) hmany)
       have hne:acc.length≠300:=by omega
       clear Hskip Hnext Hwrong hX0
       go_wp2_with fail
       refine (HF2.out _ ((Below.refl _ wr).alloc (Nat.le_refl _) _)).mono ?_
       rintro e w2 ⟨rfl,hb2⟩
       obtain ⟨hL,hT,hz⟩:=line_set tb (txt X) hb2 (.int .i64 ((k:Int)+1))
       obtain ⟨c0,c1,c2,fz⟩:=zero_cells hz
       have HL:=Lib.hid hL
       have HT:=Lib.hid hT
       clear hL hT hz hb2
       obtain ⟨po,pc,w3,hrun,hR3⟩:=(HR.out.own HT.out).push (k+1,tb,X) (by omega) 51
       have e2:(((k+1:Nat)):Int)=(k:Int)+1:=by omega
       simp only [e2,World.size_setCell] at hrun
       have HR3:=Lib.hid hR3
       clear hR3 e2
       go_wp2_with (first
        | (at_builtin;refine wpList_append_eq rfl _ _ 51 rfl _ _ _ w3 rfl rfl hrun ?_)
        | go_in)
       go_roundw
       case rel=>exact ⟨k+1+m,(m:Int)+1,_,hkm,rfl,by go_num,rfl,HSn.out,HR3.out⟩
       case measure=>simp [intOf];omega
      ·have HQ:Hid (∀ W,Turned (fun q=>wr.heap.size≤q) wr W→LexPost w s.data.toList (.returned (.tuple #[.slice none 0 0,.int .i64 3,.int .i64 ((k:Int)+1)])) W):=fun W hW =>
        LexPost.err (Hwrong.out hX0 (.inr (by omega))) HB.out (HR.out.own hW).back
       have h300:acc.length=300:=by omega
       clear Hskip Hnext Hwrong hX0
       go_wp2_with fail
       refine (HF2.out _ ((Below.refl _ wr).alloc (Nat.le_refl _) _)).mono ?_
       rintro e w2 ⟨rfl,hb2⟩
       obtain ⟨hL,hT,hz⟩:=line_set tb (txt X) hb2 (.int .i64 ((k:Int)+1))
       obtain ⟨c0,c1,c2,fz⟩:=zero_cells hz
       have HL:=Lib.hid hL
       have HT:=Lib.hid hT
       clear hL hT hz hb2
       go_wp2_with fail
       try rw [Exit.noGoto_ret]
       go_ret3
       exact HQ.out _ HT.out
   ·have HQ:=Lib.hid (LexPost.ok (HS1.out k acc hS (by rw [← HN.out];omega)) HB.out hR)
    clear hR hS HS1 HS2 HS0 HM HLA HN HB
    go_wp2
    try rw [Exit.noGoto_ret]
    go_ret3
    exact HQ.out
end Go.Proofs.YtmfjolmfbdbegaaGreatDoor
