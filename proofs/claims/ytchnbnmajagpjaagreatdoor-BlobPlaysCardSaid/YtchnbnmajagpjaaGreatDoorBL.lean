/-
  The library's contracts for strings.Builder, strings.IndexByte, CutSuffix and Index (of one byte), at this program's numbers.
  What text.Quote answers, for every text.
  Plain words on quoted texts.
  Plain words: Adler-32 over lists of bytes, and eight digits of base 16.
  Plain words on lines: what a line of texts is, what is taken of a text, what is scanned; that what is put is taken; what cut lines come to. No program, no world.
  What the functions of package sum answer.
  What Hex answers.
  What Of, the document's own Add, Of and Hex answer.
  What text.unquoteFirst answers.
  What text.Unquote answers, for every text.
  What the document's own functions value and Quote answer.
  What the document's own Unquote answers.
-/
import Derived.Shelf.Small.Strs
import Derived.Shelf.Small.Wraps
import Derived.Shelf.Strings.BuilderF
import Derived.Shelf.Strings.BuilderK
import Derived.Shelf.Strings.Search1
import Derived.Shelf.Strings.Search2
import Derived.Deep.QuietTactic
import Derived.BigQuiet
import Derived.WalkKit
import Derived.Lib.Strings
import Derived.Below
import Derived.Lib.Hide
import Derived.Outline
import Derived.Deep.RegionHeld3
import Derived.Deep.RegionWith
import Derived.Deep.LoopGhost
import Derived.IntWalk
import Derived.Laws.BitsAllLaws
import Derived.Laws.BitsLemmas
import Derived.RangeFuncRecord
import Derived.Lib.IndexLaws
import Derived.Lib.IndexBytes
import Derived.Maps.AppendAt
import Derived.Laws.IdiomStrings
import Derived.Test.YtchnbnmajagpjaaGreatDoorProg
import Derived.Test.YtchnbnmajagpjaaGreatDoorBA
namespace Go.Proofs.YtchnbnmajagpjaaGreatDoor
open Go.RowKit Go.Shelf

def lays167_ren : Go.Shelf.Ren := ⟨fun | 167 => 98 | 240 => 96 | 276 => 111 | n => n, fun | 0 => 0 | 4 => 4 | 5 => 5 | 9 => 9 | 20 => 20 | 37 => 126 | 70 => 118 | 72 => 128 | 75 => 130 | 80 => 133 | 164 => 161 | n => n, fun | n => n⟩
theorem lays167 : Go.Proofs.Lays.n167 Tryz.prog lays167_ren := {
  mixed := by kernel_rfl
  f167 := Tryz.func98.trans (congrArg some (by kernel_rfl))
  f240 := Tryz.func96.trans (congrArg some (by kernel_rfl))
  f276 := Tryz.func111.trans (congrArg some (by kernel_rfl))
  t0 := Tryz.underlying0
  a0 := Tryz.isAgg0
  z0 := Tryz.sizeOf0
  v0 := Tryz.zeroValue0
  t4 := Tryz.underlying4
  a4 := Tryz.isAgg4
  z4 := Tryz.sizeOf4
  v4 := Tryz.zeroValue4
  t5 := Tryz.underlying5
  a5 := Tryz.isAgg5
  z5 := Tryz.sizeOf5
  v5 := Tryz.zeroValue5
  t9 := Tryz.underlying9
  a9 := Tryz.isAgg9
  z9 := Tryz.sizeOf9
  v9 := Tryz.zeroValue9
  t20 := Tryz.underlying20
  a20 := Tryz.isAgg20
  z20 := Tryz.sizeOf20
  v20 := Tryz.zeroValue20
  t37 := Tryz.underlying126
  a37 := Tryz.isAgg126
  z37 := Tryz.sizeOf126
  v37 := Tryz.zeroValue126
  t70 := Tryz.underlying118
  a70 := Tryz.isAgg118
  z70 := Tryz.sizeOf118
  v70 := Tryz.zeroValue118
  t72 := Tryz.underlying128
  a72 := Tryz.isAgg128
  z72 := Tryz.sizeOf128
  v72 := Tryz.zeroValue128
  t75 := Tryz.underlying130
  a75 := Tryz.isAgg130
  z75 := Tryz.sizeOf130
  v75 := Tryz.zeroValue130
  t164 := Tryz.underlying161
  a164 := Tryz.isAgg161
  z164 := Tryz.sizeOf161
  v164 := Tryz.zeroValue161 }
theorem extra167 : Builder.Extra Tryz.prog lays167_ren := {
  sizeBuilder := by kernel_rfl
  liesBuilder := by kernel_rfl
  t5 := Tryz.underlying5
  a5 := Tryz.isAgg5
  z5 := Tryz.sizeOf5
  v5 := Tryz.zeroValue5
  infoByte := by kernel_rfl
  cellsByte := by kernel_rfl
  sizeByte := by kernel_rfl
  neB5 := by decide }
theorem writeByte_any (B b : Nat) (bs : List Value) (c : Int) (w : World) (h : Lib.IsBuilderF 128 5 B b bs w) (hlen : bs.length + 1 ≤ 140737488355328) (hBw : B ≤ w.heap.size) :
    Calls Tryz.prog 98 #[.pointer (some ⟨b, 0, none⟩), .int .u8 c] w fun e w' => e = .returned .nilIface ∧ (Lib.BuilderAtF 128 5 B b (.pointer (some ⟨b, 0, none⟩)) (bs ++ [.int .u8 c]) w' ∧ Below B w w' ∧ Lib.OthersKept 5 (some b) w w') :=
  Any.Builder_WriteByte_k lays167 extra167 B b bs c w h hlen hBw
def lays169_ren : Go.Shelf.Ren := ⟨fun | 169 => 72 | n => n, fun | 0 => 0 | 3 => 3 | 5 => 5 | 9 => 9 | 37 => 126 | 70 => 118 | 72 => 128 | 127 => 148 | n => n, fun | n => n⟩
theorem lays169 : Go.Proofs.Lays.n169 Tryz.prog lays169_ren := {
  mixed := by kernel_rfl
  f169 := Tryz.func72.trans (congrArg some (by kernel_rfl))
  t0 := Tryz.underlying0
  a0 := Tryz.isAgg0
  z0 := Tryz.sizeOf0
  v0 := Tryz.zeroValue0
  t3 := Tryz.underlying3
  a3 := Tryz.isAgg3
  z3 := Tryz.sizeOf3
  v3 := Tryz.zeroValue3
  t9 := Tryz.underlying9
  a9 := Tryz.isAgg9
  z9 := Tryz.sizeOf9
  v9 := Tryz.zeroValue9
  t37 := Tryz.underlying126
  a37 := Tryz.isAgg126
  z37 := Tryz.sizeOf126
  v37 := Tryz.zeroValue126
  t70 := Tryz.underlying118
  a70 := Tryz.isAgg118
  z70 := Tryz.sizeOf118
  v70 := Tryz.zeroValue118
  t72 := Tryz.underlying128
  a72 := Tryz.isAgg128
  z72 := Tryz.sizeOf128
  v72 := Tryz.zeroValue128
  t127 := Tryz.underlying148
  a127 := Tryz.isAgg148
  z127 := Tryz.sizeOf148
  v127 := Tryz.zeroValue148 }
theorem extra169 : Builder.Extra Tryz.prog lays169_ren := {
  sizeBuilder := by kernel_rfl
  liesBuilder := by kernel_rfl
  t5 := Tryz.underlying5
  a5 := Tryz.isAgg5
  z5 := Tryz.sizeOf5
  v5 := Tryz.zeroValue5
  infoByte := by kernel_rfl
  cellsByte := by kernel_rfl
  sizeByte := by kernel_rfl
  neB5 := by decide }
theorem builderString_any (B b : Nat) (l : List UInt8) (w : World) (h : Lib.IsBuilderF 128 5 B b (Lib.byteCells l) w) (hBw : B ≤ w.heap.size) :
    Calls Tryz.prog 72 #[.pointer (some ⟨b, 0, none⟩)] w fun e w' => e = .returned (.string ⟨l.toArray⟩) ∧ (Lib.IsBuilderF 128 5 B b (Lib.byteCells l) w' ∧ Below B w w' ∧ Lib.OthersKept 5 (some b) w w') :=
  Any.Builder_String_any_k lays169 extra169 B b l w h hBw
def lays137_ren : Go.Shelf.Ren := ⟨fun | 137 => 176 | 217 => 165 | 266 => 177 | n => n, fun | 9 => 9 | 5 => 5 | 3 => 3 | n => n, fun | n => n⟩
theorem lays137 : Go.Proofs.Lays.n137 Tryz.prog lays137_ren := {
  mixed := by kernel_rfl
  f137 := Tryz.func176.trans (congrArg some (by kernel_rfl))
  f217 := Tryz.func165.trans (congrArg some (by kernel_rfl))
  f266 := Tryz.func177.trans (congrArg some (by kernel_rfl))
  t3 := Tryz.underlying3
  a3 := Tryz.isAgg3
  z3 := Tryz.sizeOf3
  v3 := Tryz.zeroValue3
  t5 := Tryz.underlying5
  a5 := Tryz.isAgg5
  z5 := Tryz.sizeOf5
  v5 := Tryz.zeroValue5
  t9 := Tryz.underlying9
  a9 := Tryz.isAgg9
  z9 := Tryz.sizeOf9
  v9 := Tryz.zeroValue9 }
theorem indexByte_any (s : ByteArray) (c : Int) (w : World) :
    Calls Tryz.prog 176 #[.string s, .int .u8 c] w fun e w' => e = .returned (.int .i64 (Lib.indexByte s.data.toList c.toNat.toUInt8)) ∧ w' = w := Any.strings_IndexByte lays137 s c w

def lays104_ren : Go.Shelf.Ren := ⟨fun | 104 => 150 | 211 => 162 | 207 => 173 | n => n, fun | 9 => 9 | 4 => 4 | 24 => 47 | 3 => 3 | n => n, fun | n => n⟩
theorem lays104 : Go.Proofs.Lays.n104 Tryz.prog lays104_ren := {
  mixed := by kernel_rfl
  f104 := Tryz.func150.trans (congrArg some (by kernel_rfl))
  f207 := Tryz.func173.trans (congrArg some (by kernel_rfl))
  f211 := Tryz.func162.trans (congrArg some (by kernel_rfl))
  t3 := Tryz.underlying3
  a3 := Tryz.isAgg3
  z3 := Tryz.sizeOf3
  v3 := Tryz.zeroValue3
  t4 := Tryz.underlying4
  a4 := Tryz.isAgg4
  z4 := Tryz.sizeOf4
  v4 := Tryz.zeroValue4
  t9 := Tryz.underlying9
  a9 := Tryz.isAgg9
  z9 := Tryz.sizeOf9
  v9 := Tryz.zeroValue9
  t24 := Tryz.underlying47
  a24 := Tryz.isAgg47
  z24 := Tryz.sizeOf47
  v24 := Tryz.zeroValue47 }
theorem strings_CutSuffix (s p : ByteArray) (w : World) (hs : s.size ≤ 9223372036854775807) :
    Calls Tryz.prog 150 #[.string s, .string p] w fun e w' => e = .returned (.tuple #[.string ⟨(Lib.trimSuffix s.data.toList p.data.toList).toArray⟩, .bool (Lib.hasSuffix s.data.toList p.data.toList)]) ∧ w' = w := Any.strings_CutSuffix lays104 s p w hs
def lays219_ren : Go.Shelf.Ren := ⟨fun | 219 => 154 | 217 => 165 | 225 => 166 | 224 => 167 | 267 => 168 | 266 => 177 | 314 => 178 | n => n, fun | 9 => 9 | 3 => 3 | 4 => 4 | 5 => 5 | 46 => 150 | 146 => 215 | 51 => 137 | n => n, fun | 1 => 0 | n => n⟩
theorem lays219 : Go.Proofs.Lays.n219 Tryz.prog lays219_ren := {
  mixed := by kernel_rfl
  f217 := Tryz.func165.trans (congrArg some (by kernel_rfl))
  f219 := Tryz.func154.trans (congrArg some (by kernel_rfl))
  f224 := Tryz.func167.trans (congrArg some (by kernel_rfl))
  f225 := Tryz.func166.trans (congrArg some (by kernel_rfl))
  f266 := Tryz.func177.trans (congrArg some (by kernel_rfl))
  f267 := Tryz.func168.trans (congrArg some (by kernel_rfl))
  f314 := Tryz.func178.trans (congrArg some (by kernel_rfl))
  t3 := Tryz.underlying3
  a3 := Tryz.isAgg3
  z3 := Tryz.sizeOf3
  v3 := Tryz.zeroValue3
  t4 := Tryz.underlying4
  a4 := Tryz.isAgg4
  z4 := Tryz.sizeOf4
  v4 := Tryz.zeroValue4
  t5 := Tryz.underlying5
  a5 := Tryz.isAgg5
  z5 := Tryz.sizeOf5
  v5 := Tryz.zeroValue5
  t9 := Tryz.underlying9
  a9 := Tryz.isAgg9
  z9 := Tryz.sizeOf9
  v9 := Tryz.zeroValue9
  t46 := Tryz.underlying150
  a46 := Tryz.isAgg150
  z46 := Tryz.sizeOf150
  v46 := Tryz.zeroValue150
  t51 := Tryz.underlying137
  a51 := Tryz.isAgg137
  z51 := Tryz.sizeOf137
  v51 := Tryz.zeroValue137
  t146 := Tryz.underlying215
  a146 := Tryz.isAgg215
  z146 := Tryz.sizeOf215
  v146 := Tryz.zeroValue215
  g1 := by kernel_rfl }
theorem stringslite_Index_one (s : ByteArray) (c : UInt8) (w : World) :
    Calls Tryz.prog 154 #[.string s, .string ⟨#[c]⟩] w fun e w' => e = .returned (.int .i64 (Lib.indexByte s.data.toList c)) ∧ w' = w := Any.stringslite_Index_one lays219 s c w
def lays166_ren : Go.Shelf.Ren := ⟨fun | 166 => 71 | 240 => 96 | 276 => 111 | n => n, fun | 0 => 0 | 3 => 3 | 4 => 4 | 5 => 5 | 9 => 9 | 20 => 20 | 37 => 126 | 70 => 118 | 72 => 128 | 75 => 130 | 80 => 133 | 164 => 161 | n => n, fun | n => n⟩
theorem lays166 : Go.Proofs.Lays.n166 Tryz.prog lays166_ren := {
  mixed := by kernel_rfl
  f166 := Tryz.func71.trans (congrArg some (by kernel_rfl))
  f240 := Tryz.func96.trans (congrArg some (by kernel_rfl))
  f276 := Tryz.func111.trans (congrArg some (by kernel_rfl))
  t0 := Tryz.underlying0
  a0 := Tryz.isAgg0
  z0 := Tryz.sizeOf0
  v0 := Tryz.zeroValue0
  t3 := Tryz.underlying3
  a3 := Tryz.isAgg3
  z3 := Tryz.sizeOf3
  v3 := Tryz.zeroValue3
  t4 := Tryz.underlying4
  a4 := Tryz.isAgg4
  z4 := Tryz.sizeOf4
  v4 := Tryz.zeroValue4
  t9 := Tryz.underlying9
  a9 := Tryz.isAgg9
  z9 := Tryz.sizeOf9
  v9 := Tryz.zeroValue9
  t20 := Tryz.underlying20
  a20 := Tryz.isAgg20
  z20 := Tryz.sizeOf20
  v20 := Tryz.zeroValue20
  t37 := Tryz.underlying126
  a37 := Tryz.isAgg126
  z37 := Tryz.sizeOf126
  v37 := Tryz.zeroValue126
  t70 := Tryz.underlying118
  a70 := Tryz.isAgg118
  z70 := Tryz.sizeOf118
  v70 := Tryz.zeroValue118
  t72 := Tryz.underlying128
  a72 := Tryz.isAgg128
  z72 := Tryz.sizeOf128
  v72 := Tryz.zeroValue128
  t75 := Tryz.underlying130
  a75 := Tryz.isAgg130
  z75 := Tryz.sizeOf130
  v75 := Tryz.zeroValue130
  t164 := Tryz.underlying161
  a164 := Tryz.isAgg161
  z164 := Tryz.sizeOf161
  v164 := Tryz.zeroValue161 }
theorem extra166 : Builder.Extra Tryz.prog lays166_ren := {
  sizeBuilder := by kernel_rfl
  liesBuilder := by kernel_rfl
  t5 := Tryz.underlying5
  a5 := Tryz.isAgg5
  z5 := Tryz.sizeOf5
  v5 := Tryz.zeroValue5
  infoByte := by kernel_rfl
  cellsByte := by kernel_rfl
  sizeByte := by kernel_rfl
  neB5 := by decide }
theorem writeString_any (B b : Nat) (bs : List Value) (s : ByteArray) (w : World) (h : Lib.IsBuilderF 128 5 B b bs w) (hlen : bs.length + s.size ≤ 140737488355328) (hBw : B ≤ w.heap.size) :
    Calls Tryz.prog 71 #[.pointer (some ⟨b, 0, none⟩), .string s] w fun e w' => e = .returned (.tuple #[.int .i64 s.size, .nilIface]) ∧ (Lib.BuilderAtF 128 5 B b (.pointer (some ⟨b, 0, none⟩)) (bs ++ Lib.strCells s) w' ∧ Below B w w' ∧ Lib.OthersKept 5 (some b) w w') :=
  Any.Builder_WriteString_k lays166 extra166 B b bs s w h hlen hBw
def lays170_ren : Go.Shelf.Ren := ⟨fun | 170 => 70 | n => n, fun | 0 => 0 | 3 => 3 | 5 => 5 | 37 => 126 | 70 => 118 | 72 => 128 | n => n, fun | n => n⟩
theorem lays170 : Go.Proofs.Lays.n170 Tryz.prog lays170_ren := {
  mixed := by kernel_rfl
  f170 := Tryz.func70.trans (congrArg some (by kernel_rfl))
  t0 := Tryz.underlying0
  a0 := Tryz.isAgg0
  z0 := Tryz.sizeOf0
  v0 := Tryz.zeroValue0
  t3 := Tryz.underlying3
  a3 := Tryz.isAgg3
  z3 := Tryz.sizeOf3
  v3 := Tryz.zeroValue3
  t37 := Tryz.underlying126
  a37 := Tryz.isAgg126
  z37 := Tryz.sizeOf126
  v37 := Tryz.zeroValue126
  t70 := Tryz.underlying118
  a70 := Tryz.isAgg118
  z70 := Tryz.sizeOf118
  v70 := Tryz.zeroValue118
  t72 := Tryz.underlying128
  a72 := Tryz.isAgg128
  z72 := Tryz.sizeOf128
  v72 := Tryz.zeroValue128 }
theorem builderLen_any (B b : Nat) (bs : List Value) (w : World) (h : Lib.IsBuilderF 128 5 B b bs w) :
    Calls Tryz.prog 70 #[.pointer (some ⟨b, 0, none⟩)] w fun e w' => e = .returned (.int .i64 bs.length) ∧ w' = w := Any.Builder_Len_f lays170 B b bs w h

end Go.Proofs.YtchnbnmajagpjaaGreatDoor

namespace Go.Proofs.YtchnbnmajagpjaaGreatDoor
open Go.RowKit Go.Shelf
attribute [local go_sem] Oper.semAt_some

def hexOf (n : Nat) : UInt8 := ([48, 49, 50, 51, 52, 53, 54, 55, 56, 57, 65, 66, 67, 68, 69, 70] : List UInt8).getD n 0
def quo (c : UInt8) : List UInt8 := if plainB c then [c] else [37, hexOf (c.toNat / 16), hexOf (c.toNat % 16)]
def quoAll (l : List UInt8) : List UInt8 := l.flatMap quo
def quoteOf (l : List UInt8) : List UInt8 := if l = [] then [37] else quoAll l
theorem hex_get (i : Nat) (h : i < 16) (h' : i < (ByteArray.mk #[48, 49, 50, 51, 52, 53, 54, 55, 56, 57, 65, 66, 67, 68, 69, 70]).size) : (ByteArray.mk #[48, 49, 50, 51, 52, 53, 54, 55, 56, 57, 65, 66, 67, 68, 69, 70])[i]'h' = hexOf i := by
  match i, h with
  | 0, _ => rfl
  | 1, _ => rfl
  | 2, _ => rfl
  | 3, _ => rfl
  | 4, _ => rfl
  | 5, _ => rfl
  | 6, _ => rfl
  | 7, _ => rfl
  | 8, _ => rfl
  | 9, _ => rfl
  | 10, _ => rfl
  | 11, _ => rfl
  | 12, _ => rfl
  | 13, _ => rfl
  | 14, _ => rfl
  | 15, _ => rfl
  | _ + 16, h => exact absurd h (by omega)
theorem quo_len (c : UInt8) : (quo c).length ≤ 3 := by unfold quo; split <;> simp
theorem quoAll_len (l : List UInt8) : (quoAll l).length ≤ 3 * l.length := by
  induction l with
  | nil => simp [quoAll]
  | cons c r ih =>
    have := quo_len c
    simp only [quoAll, List.flatMap_cons, List.length_append, List.length_cons] at ih ⊢
    omega
theorem quoAll_snoc (l : List UInt8) (c : UInt8) : quoAll (l ++ [c]) = quoAll l ++ quo c := by simp [quoAll]
set_option maxHeartbeats 400000 in
theorem quote_none (w : World) : Calls Tryz.prog 73 #[.string ⟨#[]⟩] w fun e w' => e = .returned (.string ⟨#[37]⟩) ∧ w = w' := by
  go_enter Tryz.func73, Tryz.ntmps73
  go_wp2
  go_ret
  exact ⟨rfl, rfl⟩
set_option maxRecDepth 100000 in
set_option maxHeartbeats 2000000 in
theorem quote_some (s : ByteArray) (h0 : s.toList.isEmpty = false) (hs : s.size ≤ 35184372088832) (w : World) :
    Calls Tryz.prog 73 #[.string s] w fun e w' => e = .returned (.string (txt (quoAll s.data.toList))) ∧ Below w.heap.size w w' := by
  go_enter Tryz.func73, Tryz.ntmps73
  go_wp2
  go_loopw [10] (fun i wr => ∃ k : Nat, k ≤ s.size ∧ i = .int .i64 k ∧ Lib.IsBuilderF 128 5 w.heap.size w.heap.size (Lib.byteCells (quoAll (s.data.toList.take k))) wr ∧ Below w.heap.size w wr) (fun i _ => s.size - (intOf i).toNat)
  case atStart => exact ⟨0, Nat.zero_le _, rfl, Lib.IsBuilderF.of (Lib.fresh_isBuilder _ _ w), (Below.refl _ w).alloc (Nat.le_refl _) _⟩
  case round =>
    obtain ⟨k, hk, rfl, hI, hB⟩ := hrel
    have hsz := hB.size
    by_cases hlt : k < s.size
    · have hlt' : k < s.data.toList.length := by rw [Array.length_toList]; exact hlt
      have hgk : s.data.toList[k] = s[k] := by rw [Array.getElem_toList]; rfl
      have hts : quoAll (s.data.toList.take (k + 1)) = quoAll (s.data.toList.take k) ++ quo s[k] := by
        rw [List.take_succ_eq_append_getElem hlt', quoAll_snoc, hgk]
      have hlen : (Lib.byteCells (quoAll (s.data.toList.take k))).length + 3 ≤ 140737488355328 := by
        have h1 := quoAll_len (s.data.toList.take k)
        have h2 : (s.data.toList.take k).length ≤ k := List.length_take_le _ _
        rw [Lib.byteCells_length]; omega
      have HT := Lib.hid hts
      clear hts hgk
      obtain ⟨bs, hbs⟩ : ∃ bs, bs = Lib.byteCells (quoAll (s.data.toList.take k)) := ⟨_, rfl⟩
      rw [← hbs] at hI hlen
      have HB := Lib.hid hbs; clear hbs
      cases hp : plainB s[k] with
      | true =>
        have HP := Lib.hid hp; clear hp
        go_wp2_with fail
        refine (isPlain_t _ _ HP.out).mono ?_
        rintro e w' ⟨rfl, rfl⟩
        go_wp2_with fail
        refine (writeByte_any w.heap.size w.heap.size bs _ wr hI (by omega) (by omega)).mono ?_
        rintro e w1 ⟨rfl, hI1, hB1, _⟩
        go_wp2_with fail
        go_roundw
        case rel =>
          refine ⟨k + 1, hlt, by go_num, ?_, hB.trans hB1⟩
          rw [HT.out, quo, if_pos HP.out, Lib.byteCells_append, ← HB.out]
          exact .inr hI1
        case measure => simp [intOf]; omega
      | false =>
        have HP := Lib.hid hp; clear hp
        go_wp2_with fail
        refine (isPlain_f _ _ HP.out).mono ?_
        rintro e w' ⟨rfl, rfl⟩
        go_wp2_with fail
        refine (writeByte_any w.heap.size w.heap.size bs _ wr hI (by omega) (by omega)).mono ?_
        rintro e w1 ⟨rfl, hI1, hB1, _⟩
        have hs1 := hB1.size
        have hd1 : (s[k].toNat : Int) / 16 < 16 := by have := s[k].toNat_lt; omega
        have hd2 : s[k].toNat / 16 < 16 := by omega
        go_wp2_with fail
        refine (writeByte_any w.heap.size w.heap.size _ _ w1 (.inr hI1) (by rw [List.length_append]; simp; omega) (by omega)).mono ?_
        rintro e w2 ⟨rfl, hI2, hB2, _⟩
        have hs2 := hB2.size
        go_wp2_with fail
        refine (writeByte_any w.heap.size w.heap.size _ _ w2 (.inr hI2) (by rw [List.length_append, List.length_append]; simp; omega) (by omega)).mono ?_
        rintro e w3 ⟨rfl, hI3, hB3, _⟩
        rw [hex_get _ hd2] at hI3
        rw [hex_get _ (Nat.mod_lt _ (by decide))] at hI3
        go_wp2_with fail
        go_roundw
        case rel =>
          refine ⟨k + 1, hlt, by go_num, ?_, ((hB.trans hB1).trans hB2).trans hB3⟩
          rw [HT.out, quo, if_neg (by rw [HP.out]; simp), Lib.byteCells_append, ← HB.out]
          have e : bs ++ Lib.byteCells [37, hexOf (s[k].toNat / 16), hexOf (s[k].toNat % 16)] = bs ++ [Value.int .u8 37] ++ [Value.int .u8 (hexOf (s[k].toNat / 16)).toNat] ++ [Value.int .u8 (hexOf (s[k].toNat % 16)).toNat] := by simp [Lib.byteCells]
          rw [e]
          exact .inr hI3
        case measure => simp [intOf]; omega
    · obtain rfl : k = s.size := by omega
      have hall : s.data.toList.take s.size = s.data.toList := List.take_of_length_le (by rw [Array.length_toList]; exact Nat.le_refl _)
      rw [hall] at hI
      clear hall
      go_wp2_with fail
      refine (builderString_any w.heap.size w.heap.size _ wr hI (by omega)).mono ?_
      rintro e w1 ⟨rfl, _, hB1, _⟩
      go_wp2_with fail
      go_ret
      exact ⟨rfl, hB.trans hB1⟩
theorem quote_any (s : ByteArray) (hs : s.size ≤ 35184372088832) (w : World) :
    Calls Tryz.prog 73 #[.string s] w fun e w' => e = .returned (.string (txt (quoteOf s.data.toList))) ∧ Below w.heap.size w w' := by
  by_cases h : s.data.toList = []
  · have hs0 : s = ⟨#[]⟩ := by rw [← txt_toList s, h]; rfl
    subst hs0
    exact (quote_none w).mono fun e w' h' => ⟨h'.1, h'.2 ▸ Below.refl _ _⟩
  · unfold quoteOf
    rw [if_neg h]
    exact quote_some s (by rw [Lib.toList_data]; simpa using h) hs w

end Go.Proofs.YtchnbnmajagpjaaGreatDoor

namespace Go.Proofs.YtchnbnmajagpjaaGreatDoor
open Go.RowKit Go.Shelf

theorem int_beq_self (a : Int) : (a == a) = true := by simp
theorem plain_cases {c : UInt8} (h : plainB c = true) : (65 ≤ c.toNat ∧ c.toNat ≤ 90) ∨ (97 ≤ c.toNat ∧ c.toNat ≤ 122) ∨ (48 ≤ c.toNat ∧ c.toNat ≤ 57) ∨ c.toNat = 95 ∨ c.toNat = 45 ∨ c.toNat = 46 ∨ c.toNat = 47 ∨ c.toNat = 43 := by
  simp only [plainB, letB, digB, Bool.or_eq_true, decide_eq_true_eq] at h
  omega
theorem hexOf_plain (i : Nat) (h : i < 16) : plainB (hexOf i) = true := by
  match i, h with
  | 0, _ => rfl
  | 1, _ => rfl
  | 2, _ => rfl
  | 3, _ => rfl
  | 4, _ => rfl
  | 5, _ => rfl
  | 6, _ => rfl
  | 7, _ => rfl
  | 8, _ => rfl
  | 9, _ => rfl
  | 10, _ => rfl
  | 11, _ => rfl
  | 12, _ => rfl
  | 13, _ => rfl
  | 14, _ => rfl
  | 15, _ => rfl
  | _ + 16, h => exact absurd h (by omega)
theorem hexOf_inj (i j : Nat) (hi : i < 16) (hj : j < 16) (h : hexOf i = hexOf j) : i = j := by
  have main : ∀ i : Fin 16, ∀ j : Fin 16, hexOf i.val = hexOf j.val → i = j := by decide
  have := main ⟨i, hi⟩ ⟨j, hj⟩ h
  exact congrArg Fin.val this
def signB (c : UInt8) : Bool := plainB c || decide (c.toNat = 37)
theorem quo_signs (c : UInt8) : ∀ x ∈ quo c, signB x = true := by
  have hlt := c.toNat_lt
  unfold quo
  split
  · intro x hx; simp at hx; subst hx; simp [signB, *]
  · intro x hx
    simp at hx
    rcases hx with rfl | rfl | rfl
    · rfl
    · simp [signB, hexOf_plain _ (show c.toNat / 16 < 16 by omega)]
    · simp [signB, hexOf_plain _ (show c.toNat % 16 < 16 by omega)]
theorem quote_signs (l : List UInt8) : ∀ x ∈ quoteOf l, signB x = true := by
  unfold quoteOf
  split
  · intro x hx; simp at hx; subst hx; rfl
  · intro x hx
    simp only [quoAll, List.mem_flatMap] at hx
    obtain ⟨c, _, hx⟩ := hx
    exact quo_signs c x hx
theorem quo_ge (c : UInt8) : 1 ≤ (quo c).length := by unfold quo; split <;> simp
theorem quoAll_ge (l : List UInt8) : l.length ≤ (quoAll l).length := by
  induction l with
  | nil => simp
  | cons c r ih =>
    have := quo_ge c
    simp only [quoAll, List.flatMap_cons, List.length_append, List.length_cons] at ih ⊢
    omega
theorem quote_len (l : List UInt8) : l.length ≤ (quoteOf l).length ∧ ((quoteOf l).length ≤ 1 ∨ (quoteOf l).length ≤ 3 * l.length) := by
  unfold quoteOf
  split
  · rename_i h; subst h; simp
  · exact ⟨quoAll_ge l, .inr (quoAll_len l)⟩
theorem quoAll_inj : ∀ a b : List UInt8, quoAll a = quoAll b → a = b
  | [], [], _ => rfl
  | [], c :: r, h => by
    have := congrArg List.length h
    have h2 := quo_ge c
    simp only [quoAll, List.flatMap_nil, List.flatMap_cons, List.length_append, List.length_nil] at this
    omega
  | c :: r, [], h => by
    have := congrArg List.length h
    have h2 := quo_ge c
    simp only [quoAll, List.flatMap_nil, List.flatMap_cons, List.length_append, List.length_nil] at this
    omega
  | c :: r, d :: t, h => by
    have hc := c.toNat_lt
    have hd := d.toNat_lt
    have e : quo c ++ quoAll r = quo d ++ quoAll t := by simpa [quoAll] using h
    have hp37 : plainB 37 = false := rfl
    cases pc : plainB c <;> cases pd : plainB d
    · simp only [quo, pc, pd, Bool.false_eq_true, if_false, List.cons_append, List.nil_append, List.cons.injEq, true_and] at e
      obtain ⟨e1, e2, e3⟩ := e
      have h1 := hexOf_inj _ _ (by omega) (by omega) e1
      have h2 := hexOf_inj _ _ (by omega) (by omega) e2
      have : c = d := UInt8.toNat_inj.1 (by omega)
      rw [this, quoAll_inj r t e3]
    · simp only [quo, pc, pd, Bool.false_eq_true, if_false, if_true, List.cons_append, List.nil_append, List.cons.injEq] at e
      rw [← e.1, hp37] at pd; cases pd
    · simp only [quo, pc, pd, Bool.false_eq_true, if_false, if_true, List.cons_append, List.nil_append, List.cons.injEq] at e
      rw [e.1, hp37] at pc; cases pc
    · simp only [quo, pc, pd, if_true, List.cons_append, List.nil_append, List.cons.injEq] at e
      rw [e.1, quoAll_inj r t e.2]
theorem quoAll_not37 (l : List UInt8) (h : l ≠ []) : quoAll l ≠ [37] := by
  cases l with
  | nil => exact absurd rfl h
  | cons c r =>
    intro e
    have e' : quo c ++ quoAll r = [37] := by simpa [quoAll] using e
    cases pc : plainB c
    · simp [quo, pc] at e'
    · simp only [quo, pc, if_true, List.cons_append, List.nil_append, List.cons.injEq] at e'
      have hp37 : plainB 37 = false := rfl
      rw [e'.1, hp37] at pc; cases pc
theorem quote_inj (a b : List UInt8) (h : quoteOf a = quoteOf b) : a = b := by
  unfold quoteOf at h
  split at h <;> split at h
  · rename_i h1 h2; rw [h1, h2]
  · rename_i h1 h2; exact absurd h.symm (quoAll_not37 b h2)
  · rename_i h1 h2; exact absurd h (quoAll_not37 a h1)
  · exact quoAll_inj a b h
theorem quoAll_plain (l : List UInt8) (h : allB plainB l = true) : quoAll l = l := by
  induction l with
  | nil => rfl
  | cons c r ih =>
    unfold allB at h ih
    rw [List.all_cons, Bool.and_eq_true] at h
    have := ih h.2
    simp only [quoAll, List.flatMap_cons] at this ⊢
    rw [this, quo, if_pos h.1]; rfl
theorem txt_mem (l : List UInt8) (k : Nat) (hk : k < (txt l).size) : (txt l)[k] ∈ l := by
  have h : k < (txt l).data.toList.length := by rw [Array.length_toList]; exact hk
  have e : (txt l).data.toList[k] = (txt l)[k] := by rw [Array.getElem_toList]; rfl
  have := List.getElem_mem h
  rw [e] at this
  rwa [txt_data] at this

end Go.Proofs.YtchnbnmajagpjaaGreatDoor

namespace Go.Proofs.YtchnbnmajagpjaaGreatDoor
open Go.RowKit

def stepN (h : Nat × Nat) (c : UInt8) : Nat × Nat := ((h.1 + c.toNat) % 65521, (h.2 + (h.1 + c.toNat) % 65521) % 65521)
def halvesN (n : Nat) : Nat × Nat := (n % 65536 % 65521, n / 65536 % 65521)
def runN (h : Nat × Nat) (l : List UInt8) : Nat × Nat := l.foldl stepN h
def joinN (h : Nat × Nat) : Nat := h.2 * 65536 + h.1
def addN (n : Nat) (l : List UInt8) : Nat := joinN (runN (halvesN n) l)
def LowN (h : Nat × Nat) : Prop := h.1 < 65521 ∧ h.2 < 65521
theorem step_low (h : Nat × Nat) (c : UInt8) : LowN (stepN h c) := ⟨Nat.mod_lt _ (by decide), Nat.mod_lt _ (by decide)⟩
theorem halves_low (n : Nat) : LowN (halvesN n) := ⟨Nat.mod_lt _ (by decide), Nat.mod_lt _ (by decide)⟩
theorem run_low {h : Nat × Nat} (hl : LowN h) (l : List UInt8) : LowN (runN h l) := by
  induction l generalizing h with
  | nil => exact hl
  | cons c r ih => exact ih (step_low h c)
theorem run_snoc (h : Nat × Nat) (l : List UInt8) (c : UInt8) : runN h (l ++ [c]) = stepN (runN h l) c := by simp [runN]
theorem run_append (h : Nat × Nat) (l m : List UInt8) : runN h (l ++ m) = runN (runN h l) m := by simp [runN]
theorem halves_join {h : Nat × Nat} (hl : LowN h) : halvesN (joinN h) = h := by
  obtain ⟨a, b⟩ := h
  obtain ⟨h1, h2⟩ := hl
  simp only [halvesN, joinN, Prod.mk.injEq] at *
  omega
theorem join_lt {h : Nat × Nat} (hl : LowN h) : joinN h < 4294967296 := by
  obtain ⟨a, b⟩ := h
  obtain ⟨h1, h2⟩ := hl
  simp only [joinN] at *
  omega
theorem add_lt (n : Nat) (l : List UInt8) : addN n l < 4294967296 := join_lt (run_low (halves_low n) l)
theorem add_append (n : Nat) (l m : List UInt8) : addN n (l ++ m) = addN (addN n l) m := by
  unfold addN
  rw [halves_join (run_low (halves_low n) l), run_append]
theorem add_nil_add (n : Nat) (l : List UInt8) : addN (addN n l) [] = addN n l := by
  rw [← add_append, List.append_nil]
theorem add_halves (n : Nat) (l : List UInt8) : addN n l % 65536 < 65521 ∧ addN n l / 65536 < 65521 := by
  have := run_low (halves_low n) l
  obtain ⟨h1, h2⟩ := this
  unfold addN joinN
  omega
theorem take_snoc (s : ByteArray) (k : Nat) (h : k < s.size) : s.data.toList.take (k + 1) = s.data.toList.take k ++ [s[k]] := by
  rw [List.take_succ_eq_append_getElem (by simpa using h)]; rfl
theorem run_take (h : Nat × Nat) (s : ByteArray) (k : Nat) (hk : k < s.size) : runN h (s.data.toList.take (k + 1)) = stepN (runN h (s.data.toList.take k)) s[k] := by
  rw [take_snoc s k hk, run_snoc]
/-- Two unlike starts never meet. -/
theorem run_apart {h g : Nat × Nat} (hh : LowN h) (hg : LowN g) (l : List UInt8) (ne : h ≠ g) : runN h l ≠ runN g l := by
  induction l generalizing h g with
  | nil => exact ne
  | cons c r ih =>
    refine ih (step_low h c) (step_low g c) ?_
    intro e
    apply ne
    obtain ⟨a, b⟩ := h
    obtain ⟨a', b'⟩ := g
    obtain ⟨h1, h2⟩ := hh
    obtain ⟨g1, g2⟩ := hg
    simp only [stepN, Prod.mk.injEq] at *
    omega
theorem step_apart {h : Nat × Nat} (hh : LowN h) {c d : UInt8} (ne : c ≠ d) : stepN h c ≠ stepN h d := by
  intro e
  apply ne
  obtain ⟨a, b⟩ := h
  obtain ⟨h1, h2⟩ := hh
  simp only [stepN, Prod.mk.injEq] at *
  have := UInt8.toNat_lt c
  have := UInt8.toNat_lt d
  exact UInt8.toNat_inj.1 (by omega)
theorem join_inj {h g : Nat × Nat} (hh : LowN h) (hg : LowN g) (e : joinN h = joinN g) : h = g := by
  rw [← halves_join hh, ← halves_join hg, e]
theorem add_apart (n : Nat) (a b : List UInt8) {c d : UInt8} (ne : c ≠ d) : addN n (a ++ c :: b) ≠ addN n (a ++ d :: b) := by
  intro e
  have hl := run_low (halves_low n) a
  have e2 := join_inj (run_low (halves_low n) _) (run_low (halves_low n) _) e
  rw [run_append, run_append] at e2
  exact run_apart (step_low _ c) (step_low _ d) b (step_apart hl ne) e2
/-- A digit of base 16. -/
def hxB (k : Nat) : UInt8 := if k < 10 then UInt8.ofNat (48 + k) else UInt8.ofNat (87 + k)
/-- The last i digits of n. -/
def digsN (n : Nat) : Nat → List UInt8
  | 0 => []
  | i + 1 => hxB (n / 16 ^ i % 16) :: digsN n i
def hexN (n : Nat) : List UInt8 := digsN n 8
theorem digs_len (n i : Nat) : (digsN n i).length = i := by induction i with
  | zero => rfl
  | succ i ih => simp [digsN, ih]
theorem dig_inj {a b : Nat} (ha : a < 16) (hb : b < 16) (h : hxB a = hxB b) : a = b := by
  have : ∀ a : Fin 16, ∀ b : Fin 16, hxB a.1 = hxB b.1 → a.1 = b.1 := by decide
  exact this ⟨a, ha⟩ ⟨b, hb⟩ h
theorem digs_inj (i a b : Nat) (h : digsN a i = digsN b i) : a % 16 ^ i = b % 16 ^ i := by
  induction i with
  | zero => simp [Nat.mod_one]
  | succ i ih =>
    simp only [digsN, List.cons.injEq] at h
    have h1 := dig_inj (Nat.mod_lt _ (by decide)) (Nat.mod_lt _ (by decide)) h.1
    have h2 := ih h.2
    rw [Nat.pow_succ, Nat.mod_mul, Nat.mod_mul, h1, h2]
theorem hex_inj {a b : Nat} (ha : a < 4294967296) (hb : b < 4294967296) (h : hexN a = hexN b) : a = b := by
  have := digs_inj 8 a b h
  simp only [show (16 : Nat) ^ 8 = 4294967296 from rfl] at this
  omega

end Go.Proofs.YtchnbnmajagpjaaGreatDoor

namespace Go.Proofs.YtchnbnmajagpjaaGreatDoor
open Go.RowKit

def sp32 (c : UInt8) : Bool := decide (c.toNat = 32)
def hexB (c : UInt8) : Bool := decide (48 ≤ c.toNat ∧ c.toNat ≤ 57 ∨ 97 ≤ c.toNat ∧ c.toNat ≤ 102)

/-- The text that a word is the quoted form of, if there is one. -/
noncomputable def unqO (l : List UInt8) : Option (List UInt8) := open Classical in if h : ∃ t, quoteOf t = l then some (Classical.choose h) else none
theorem unq_quote (t : List UInt8) : unqO (quoteOf t) = some t := by
  have h : ∃ u, quoteOf u = quoteOf t := ⟨t, rfl⟩
  unfold unqO
  rw [dif_pos h]
  exact congrArg some (quote_inj _ _ (Classical.choose_spec h))
theorem unq_some {l t : List UInt8} (h : unqO l = some t) : quoteOf t = l := by
  unfold unqO at h
  split at h
  · rename_i hx
    rw [← Option.some.inj h]; exact Classical.choose_spec hx
  · cases h
theorem unq_none {l : List UInt8} (h : unqO l = none) (t : List UInt8) : quoteOf t ≠ l := by
  intro e
  rw [← e, unq_quote] at h; cases h

/-- Quoted texts, a blank behind each; the sum's digits; the line. -/
def bodyOf (xs : List (List UInt8)) : List UInt8 := xs.flatMap fun x => quoteOf x ++ [32]
def sealOf (b : List UInt8) : List UInt8 := hexN (addN 1 b)
def lineOf (xs : List (List UInt8)) : List UInt8 := bodyOf xs ++ sealOf (bodyOf xs) ++ [10]
def Fit (xs : List (List UInt8)) : Prop := 1 ≤ xs.length ∧ xs.length ≤ 40 ∧ (bodyOf xs).length ≤ 12991

theorem body_nil : bodyOf [] = [] := rfl
theorem body_snoc (xs : List (List UInt8)) (x : List UInt8) : bodyOf (xs ++ [x]) = bodyOf xs ++ quoteOf x ++ [32] := by simp [bodyOf]
theorem body_cons (x : List UInt8) (xs : List (List UInt8)) : bodyOf (x :: xs) = quoteOf x ++ 32 :: bodyOf xs := by simp [bodyOf]
theorem seal_len (b : List UInt8) : (sealOf b).length = 8 := digs_len _ _
theorem line_len (xs : List (List UInt8)) : (lineOf xs).length = (bodyOf xs).length + 9 := by
  simp only [lineOf, List.length_append, seal_len, List.length_cons, List.length_nil]

/-- The texts of a body: words, each quoted, each with a blank behind it, 1 to 40. -/
noncomputable def formOf (b : List UInt8) : Option (List (List UInt8)) :=
  if (pieces sp32 b).getLast? = some [] ∧ 2 ≤ (pieces sp32 b).length ∧ (pieces sp32 b).length ≤ 41 then (pieces sp32 b).dropLast.mapM unqO else none

theorem sign_not_sp {c : UInt8} (h : signB c = true) : sp32 c = false := by
  simp only [signB, Bool.or_eq_true, decide_eq_true_eq] at h
  simp only [sp32, decide_eq_false_iff_not]
  rcases h with h | h
  · have := plain_cases h; omega
  · omega
theorem quote_no_sp (t : List UInt8) : ∀ c ∈ quoteOf t, sp32 c = false := fun c h => sign_not_sp (quote_signs t c h)
theorem pieces_sep (p : UInt8 → Bool) (a : List UInt8) (c : UInt8) (b : List UInt8) (hc : p c = true) : pieces p (a ++ c :: b) = pieces p a ++ pieces p b := by
  induction a with
  | nil => simp [pieces, hc]
  | cons x a ih =>
    simp only [List.cons_append, pieces, ih]
    split
    · simp
    · cases h : pieces p a with
      | nil => exact absurd h (pieces_ne p a)
      | cons y z => simp
theorem pieces_body (xs : List (List UInt8)) : pieces sp32 (bodyOf xs) = xs.map quoteOf ++ [[]] := by
  induction xs with
  | nil => rfl
  | cons x r ih =>
    rw [body_cons, pieces_sep sp32 _ 32 _ (by decide), ih, pieces_none sp32 _ (quote_no_sp x)]
    rfl
theorem map_unq (xs : List (List UInt8)) : (xs.map quoteOf).mapM unqO = some xs := by
  induction xs with
  | nil => rfl
  | cons x r ih => simp [List.mapM_cons, ih, unq_quote]
theorem form_body (xs : List (List UInt8)) (h1 : 1 ≤ xs.length) (h2 : xs.length ≤ 40) : formOf (bodyOf xs) = some xs := by
  unfold formOf
  rw [pieces_body, if_pos ⟨by simp, by simp; omega, by simp; omega⟩, List.dropLast_concat, map_unq]

theorem unq_map : ∀ (ws : List (List UInt8)) (xs : List (List UInt8)), ws.mapM unqO = some xs → ws = xs.map quoteOf
  | [], xs, h => by simp at h; subst h; rfl
  | w :: r, xs, h => by
    simp only [List.mapM_cons, Option.bind_eq_bind, Option.pure_def, Option.bind_eq_some_iff] at h
    obtain ⟨t, h1, ts, h2, h3⟩ := h
    cases h3
    rw [List.map_cons, ← unq_map r ts h2, unq_some h1]
/-- Pieces put together again. -/
def joinSp : List (List UInt8) → List UInt8
  | [] => []
  | [a] => a
  | a :: r => a ++ 32 :: joinSp r
theorem join_pieces (l : List UInt8) : joinSp (pieces sp32 l) = l := by
  induction l with
  | nil => rfl
  | cons c r ih =>
    simp only [pieces]
    split
    · rename_i hc
      have : c = 32 := UInt8.toNat_inj.1 (by simpa [sp32] using hc)
      subst this
      cases h : pieces sp32 r with
      | nil => exact absurd h (pieces_ne _ _)
      | cons a t => rw [h] at ih; show [] ++ 32 :: joinSp (a :: t) = _; rw [ih]; rfl
    · cases h : pieces sp32 r with
      | nil => exact absurd h (pieces_ne _ _)
      | cons a t =>
        rw [h] at ih
        cases t with
        | nil => simp only [joinSp] at ih ⊢; rw [ih]
        | cons b u => simp only [joinSp] at ih ⊢; rw [List.cons_append, ih]
theorem join_body : ∀ xs : List (List UInt8), joinSp (xs.map quoteOf ++ [[]]) = bodyOf xs
  | [] => rfl
  | [x] => by simp [joinSp, bodyOf]
  | x :: y :: r => by
    have := join_body (y :: r)
    simp only [List.map_cons, List.cons_append, joinSp] at this ⊢
    rw [this, body_cons x]
theorem form_some {b : List UInt8} {xs : List (List UInt8)} (h : formOf b = some xs) : b = bodyOf xs ∧ 1 ≤ xs.length ∧ xs.length ≤ 40 := by
  unfold formOf at h
  split at h
  · rename_i hc
    obtain ⟨h1, h2, h3⟩ := hc
    have hw := unq_map _ _ h
    have hp : pieces sp32 b = xs.map quoteOf ++ [[]] := by
      rw [← hw]
      obtain ⟨i, hi⟩ : ∃ i, pieces sp32 b = i ++ [[]] := by
        rcases List.eq_nil_or_concat (pieces sp32 b) with e | ⟨i, a, e⟩
        · exact absurd e (pieces_ne _ _)
        · rw [List.concat_eq_append] at e
          rw [e, List.getLast?_concat] at h1
          cases h1
          exact ⟨i, e⟩
      rw [hi, List.dropLast_concat]
    refine ⟨?_, ?_, ?_⟩
    · rw [← join_pieces b, hp, join_body]
    · rw [hp] at h2; simp at h2; omega
    · rw [hp] at h3; simp at h3; omega
  · cases h

/-- What is taken of a text: one of three errors, or the texts and what is behind. -/
abbrev TakeR := Option (Option (Option (List (List UInt8) × List UInt8)))
abbrev TakeR.short : TakeR := none
abbrev TakeR.form : TakeR := some none
abbrev TakeR.sum : TakeR := some (some none)
abbrev TakeR.ok (xs : List (List UInt8)) (rest : List UInt8) : TakeR := some (some (some (xs, rest)))
theorem take_kinds (t : TakeR) : t = .short ∨ t = .form ∨ t = .sum ∨ ∃ xs r, t = .ok xs r := by
  cases t with
  | none => exact .inl rfl
  | some t => cases t with
    | none => exact .inr (.inl rfl)
    | some t => cases t with
      | none => exact .inr (.inr (.inl rfl))
      | some p => obtain ⟨xs, r⟩ := p; exact .inr (.inr (.inr ⟨xs, r, rfl⟩))
def headOf (s : List UInt8) : List UInt8 := s.takeWhile fun c => !nlB c
noncomputable def takeOf (s : List UInt8) : TakeR :=
  if (headOf s).length = s.length then .short
  else if (headOf s).length < 8 ∨ 13000 ≤ (headOf s).length ∨ ((headOf s).drop ((headOf s).length - 8)).all hexB = false then .form
  else match formOf ((headOf s).take ((headOf s).length - 8)) with
    | none => .form
    | some xs => if sealOf ((headOf s).take ((headOf s).length - 8)) = (headOf s).drop ((headOf s).length - 8) then .ok xs (s.drop ((headOf s).length + 1)) else .sum

theorem head_le (s : List UInt8) : (headOf s).length ≤ s.length := by
  have := List.takeWhile_prefix (fun c => !nlB c) (l := s)
  exact this.length_le
theorem head_no (s : List UInt8) : ∀ c ∈ headOf s, nlB c = false := by
  intro c hc
  induction s with
  | nil => cases hc
  | cons x r ih =>
    unfold headOf at hc ih
    rw [List.takeWhile_cons] at hc
    split at hc
    · rename_i hx
      rcases List.mem_cons.1 hc with rfl | h
      · simpa using hx
      · exact ih h
    · cases hc
theorem head_cut (a r : List UInt8) (h : ∀ c ∈ a, nlB c = false) : headOf (a ++ 10 :: r) = a := by
  induction a with
  | nil => rfl
  | cons c a ih =>
    have h1 := h c (by simp)
    have h2 := ih (fun x hx => h x (by simp [hx]))
    unfold headOf at h2 ⊢
    rw [List.cons_append, List.takeWhile_cons, h1]
    simp only [Bool.not_false, if_true]
    rw [h2]
theorem head_none (a : List UInt8) (h : ∀ c ∈ a, nlB c = false) : headOf a = a := by
  induction a with
  | nil => rfl
  | cons c a ih =>
    have h1 := h c (by simp)
    have h2 := ih (fun x hx => h x (by simp [hx]))
    unfold headOf at h2 ⊢
    rw [List.takeWhile_cons, h1]
    simp only [Bool.not_false, if_true]
    rw [h2]
theorem head_split (s : List UInt8) (h : (headOf s).length ≠ s.length) : s = headOf s ++ 10 :: s.drop ((headOf s).length + 1) := by
  induction s with
  | nil => exact absurd rfl h
  | cons c r ih =>
    by_cases hc : nlB c = true
    · have e : headOf (c :: r) = [] := by unfold headOf; rw [List.takeWhile_cons, hc]; rfl
      have : c = 10 := UInt8.toNat_inj.1 (by simpa [nlB] using hc)
      rw [e, this]; rfl
    · have hc' : nlB c = false := by simpa using hc
      have e : headOf (c :: r) = c :: headOf r := by unfold headOf; rw [List.takeWhile_cons, hc']; rfl
      rw [e] at h ⊢
      have := ih (fun hh => h (by simp [hh]))
      conv => lhs; rw [this]
      simp
theorem hex_digit (n k : Nat) : ∀ c ∈ digsN n k, hexB c = true := by
  induction k with
  | zero => simp [digsN]
  | succ k ih =>
    intro c hc
    simp only [digsN, List.mem_cons] at hc
    rcases hc with rfl | hc
    · have main : ∀ i : Fin 16, hexB (hxB i.1) = true := by decide
      exact main ⟨_, Nat.mod_lt _ (by decide)⟩
    · exact ih c hc
theorem seal_hex (b : List UInt8) : (sealOf b).all hexB = true := by
  rw [List.all_eq_true]; exact hex_digit _ _
theorem hex_not_nl {c : UInt8} (h : hexB c = true) : nlB c = false := by
  simp only [hexB, decide_eq_true_eq] at h
  simp only [nlB, decide_eq_false_iff_not]; omega
theorem body_not_nl (xs : List (List UInt8)) : ∀ c ∈ bodyOf xs, nlB c = false := by
  intro c hc
  simp only [bodyOf, List.mem_flatMap, List.mem_append, List.mem_cons, List.mem_nil_iff, or_false] at hc
  obtain ⟨x, _, hx | rfl⟩ := hc
  · have := quote_signs x c hx
    simp only [signB, Bool.or_eq_true, decide_eq_true_eq] at this
    simp only [nlB, decide_eq_false_iff_not]
    rcases this with h | h
    · have := plain_cases h; omega
    · omega
  · rfl
theorem front_not_nl (xs : List (List UInt8)) : ∀ c ∈ bodyOf xs ++ sealOf (bodyOf xs), nlB c = false := by
  intro c hc
  rcases List.mem_append.1 hc with h | h
  · exact body_not_nl xs c h
  · exact hex_not_nl (hex_digit _ _ c h)

theorem take_line (xs : List (List UInt8)) (h : Fit xs) (r : List UInt8) : takeOf (lineOf xs ++ r) = .ok xs r := by
  obtain ⟨h1, h2, h3⟩ := h
  have e : lineOf xs ++ r = (bodyOf xs ++ sealOf (bodyOf xs)) ++ 10 :: r := by simp [lineOf]
  have hh : headOf (lineOf xs ++ r) = bodyOf xs ++ sealOf (bodyOf xs) := by rw [e]; exact head_cut _ _ (front_not_nl xs)
  have hl : (bodyOf xs ++ sealOf (bodyOf xs)).length = (bodyOf xs).length + 8 := by rw [List.length_append, seal_len]
  have ht : (bodyOf xs ++ sealOf (bodyOf xs)).take ((bodyOf xs ++ sealOf (bodyOf xs)).length - 8) = bodyOf xs := by rw [hl, Nat.add_sub_cancel, List.take_left]
  have hd : (bodyOf xs ++ sealOf (bodyOf xs)).drop ((bodyOf xs ++ sealOf (bodyOf xs)).length - 8) = sealOf (bodyOf xs) := by rw [hl, Nat.add_sub_cancel, List.drop_left]
  unfold takeOf
  rw [hh, ht, hd, if_neg (by rw [e, List.length_append]; simp), if_neg (by rw [hl, seal_hex]; simp; omega), form_body xs h1 h2]
  simp only [if_true]
  refine congrArg (TakeR.ok xs) ?_
  rw [e, List.drop_append, List.drop_eq_nil_of_le (by omega)]
  simp
theorem take_ok {s : List UInt8} {xs : List (List UInt8)} {r : List UInt8} (h : takeOf s = .ok xs r) : s = lineOf xs ++ r ∧ Fit xs := by
  unfold takeOf at h
  split at h
  · cases h
  rename_i hs
  split at h
  · cases h
  rename_i hf
  split at h
  · cases h
  rename_i ys hys
  split at h
  · rename_i hseal
    cases h
    obtain ⟨hb, h1, h2⟩ := form_some hys
    have hcut := head_split s hs
    have hl : ¬ (headOf s).length < 8 ∧ ¬ 13000 ≤ (headOf s).length := ⟨fun h => hf (.inl h), fun h => hf (.inr (.inl h))⟩
    have hbl : (bodyOf xs).length = (headOf s).length - 8 := by rw [← hb, List.length_take]; omega
    refine ⟨?_, h1, h2, by omega⟩
    have hhead : headOf s = bodyOf xs ++ sealOf (bodyOf xs) := by
      rw [← hb, hseal, List.take_append_drop]
    conv => lhs; rw [hcut]
    conv => lhs; lhs; rw [hhead]
    simp [lineOf]
  · cases h
theorem take_none (s : List UInt8) (h : ∀ c ∈ s, nlB c = false) : takeOf s = .short := by
  unfold takeOf
  rw [head_none s h, if_pos rfl]

/-- What is scanned: the lists, each with what is behind its line. -/
noncomputable def scanN : Nat → List UInt8 → List (List (List UInt8) × List UInt8)
  | 0, _ => []
  | n + 1, s => match takeOf s with
    | some (some (some (xs, r))) => (xs, r) :: scanN n r
    | _ => []
noncomputable def scanOf (s : List UInt8) : List (List (List UInt8) × List UInt8) := scanN (s.length + 1) s
theorem take_less {s : List UInt8} {xs : List (List UInt8)} {r : List UInt8} (h : takeOf s = .ok xs r) : r.length + 9 ≤ s.length := by
  obtain ⟨h1, _⟩ := take_ok h
  rw [h1, List.length_append, line_len]; omega
theorem scanN_fuel : ∀ (n m : Nat) (s : List UInt8), s.length < n → s.length < m → scanN n s = scanN m s
  | 0, _, _, h, _ => absurd h (Nat.not_lt_zero _)
  | _, 0, _, _, h => absurd h (Nat.not_lt_zero _)
  | n + 1, m + 1, s, h1, h2 => by
    simp only [scanN]
    split
    · rename_i xs r ht
      have := take_less ht
      rw [scanN_fuel n m r (by omega) (by omega)]
    · rfl
theorem scan_ok {s : List UInt8} {xs : List (List UInt8)} {r : List UInt8} (h : takeOf s = .ok xs r) : scanOf s = (xs, r) :: scanOf r := by
  have := take_less h
  unfold scanOf
  show scanN (s.length + 1) s = _
  rw [scanN, h]
  show (xs, r) :: scanN s.length r = (xs, r) :: scanN (r.length + 1) r
  rw [scanN_fuel s.length (r.length + 1) r (by omega) (by omega)]
theorem scan_not {s : List UInt8} (h : ∀ xs r, takeOf s ≠ .ok xs r) : scanOf s = [] := by
  unfold scanOf
  rw [scanN]
  split
  · rename_i xs r e; exact absurd e (h xs r)
  · rfl
theorem scan_len : ∀ (n : Nat) (s : List UInt8), s.length ≤ n → (scanOf s).length ≤ s.length
  | n, s, hn => by
    rcases take_kinds (takeOf s) with h | h | h | ⟨xs, r, h⟩
    · rw [scan_not (by intro xs r e; rw [h] at e; cases e)]; simp
    · rw [scan_not (by intro xs r e; rw [h] at e; cases e)]; simp
    · rw [scan_not (by intro xs r e; rw [h] at e; cases e)]; simp
    · have h1 := take_less h
      cases n with
      | zero => omega
      | succ n =>
        have := scan_len n r (by omega)
        rw [scan_ok h, List.length_cons]; omega
/-- How many bytes are scanned. -/
def endOf (s : List UInt8) (l : List (List (List UInt8) × List UInt8)) : Nat := match l.getLast? with
  | some x => s.length - x.2.length
  | none => 0

/-- All texts of some lists, line by line. -/
def linesOfAll (ls : List (List (List UInt8))) : List UInt8 := ls.flatMap lineOf
theorem scan_lines : ∀ (ls : List (List (List UInt8))) (tail : List UInt8), (∀ x ∈ ls, Fit x) → (∀ xs r, takeOf tail ≠ .ok xs r) →
    (scanOf (linesOfAll ls ++ tail)).map (·.1) = ls ∧ ∀ x ∈ (scanOf (linesOfAll ls ++ tail)).getLast?, x.2 = tail
  | [], tail, _, ht => by
    have : scanOf (linesOfAll [] ++ tail) = [] := scan_not ht
    rw [this]; simp
  | x :: r, tail, hf, ht => by
    have h1 : linesOfAll (x :: r) ++ tail = lineOf x ++ (linesOfAll r ++ tail) := by simp [linesOfAll]
    have h2 := take_line x (hf x (by simp)) (linesOfAll r ++ tail)
    obtain ⟨h3, h4⟩ := scan_lines r tail (fun y hy => hf y (by simp [hy])) ht
    rw [h1, scan_ok h2]
    refine ⟨by simp [h3], ?_⟩
    intro y hy
    cases hc : scanOf (linesOfAll r ++ tail) with
    | nil =>
      rw [hc] at hy h3
      have : r = [] := by simpa using h3.symm
      subst this
      simp at hy
      rw [← hy]; rfl
    | cons a t =>
      rw [hc] at hy h4
      rw [List.getLast?_cons_cons] at hy
      exact h4 y hy

/-- A line cut short has no line feed. -/
theorem cut_no_nl (xs : List (List UInt8)) (k : Nat) (h : k < (lineOf xs).length) : ∀ c ∈ (lineOf xs).take k, nlB c = false := by
  intro c hc
  have e : lineOf xs = (bodyOf xs ++ sealOf (bodyOf xs)) ++ [10] := rfl
  have hk : k ≤ (bodyOf xs ++ sealOf (bodyOf xs)).length := by rw [e, List.length_append] at h; simp at h ⊢; omega
  rw [e, List.take_append_of_le_length hk] at hc
  exact front_not_nl xs c (List.mem_of_mem_take hc)

/-- A line of which one byte is another one is not taken. -/
theorem line_turned (xs : List (List UInt8)) (k : Nat) (hk : k + 1 < (lineOf xs).length) (c : UInt8) (hc : nlB c = false) (hne : (lineOf xs)[k]? ≠ some c) :
    ∀ ys r, takeOf ((lineOf xs).take k ++ c :: (lineOf xs).drop (k + 1)) ≠ .ok ys r := by
  intro ys r ht
  obtain ⟨h1, h2⟩ := take_ok ht
  rw [line_len] at hk
  have hT : lineOf xs = (bodyOf xs ++ sealOf (bodyOf xs)) ++ [10] := rfl
  have hfl : (bodyOf xs ++ sealOf (bodyOf xs)).length = (bodyOf xs).length + 8 := by rw [List.length_append, seal_len]
  have htk : (lineOf xs).take k = (bodyOf xs ++ sealOf (bodyOf xs)).take k := by rw [hT, List.take_append_of_le_length (by omega)]
  have hdk : (lineOf xs).drop (k + 1) = (bodyOf xs ++ sealOf (bodyOf xs)).drop (k + 1) ++ [10] := by rw [hT, List.drop_append_of_le_length (by omega)]
  rw [htk, hdk] at h1
  -- the head of the turned line
  have hn1 : ∀ x ∈ (bodyOf xs ++ sealOf (bodyOf xs)).take k ++ c :: (bodyOf xs ++ sealOf (bodyOf xs)).drop (k + 1), nlB x = false := by
    intro x hx
    rcases List.mem_append.1 hx with h | h
    · exact front_not_nl xs x (List.mem_of_mem_take h)
    · rcases List.mem_cons.1 h with rfl | h
      · exact hc
      · exact front_not_nl xs x (List.mem_of_mem_drop h)
  have hA : headOf ((bodyOf xs ++ sealOf (bodyOf xs)).take k ++ c :: ((bodyOf xs ++ sealOf (bodyOf xs)).drop (k + 1) ++ [10])) = (bodyOf xs ++ sealOf (bodyOf xs)).take k ++ c :: (bodyOf xs ++ sealOf (bodyOf xs)).drop (k + 1) := by
    have := head_cut _ [] hn1
    rw [← this]; congr 1; simp
  have hB : headOf (lineOf ys ++ r) = bodyOf ys ++ sealOf (bodyOf ys) := by
    have e : lineOf ys ++ r = (bodyOf ys ++ sealOf (bodyOf ys)) ++ 10 :: r := by simp [lineOf]
    rw [e]; exact head_cut _ _ (front_not_nl ys)
  have hE : (bodyOf xs ++ sealOf (bodyOf xs)).take k ++ c :: (bodyOf xs ++ sealOf (bodyOf xs)).drop (k + 1) = bodyOf ys ++ sealOf (bodyOf ys) := by
    rw [← hA, ← hB, h1]
  have hbl : (bodyOf ys).length = (bodyOf xs).length := by
    have := congrArg List.length hE
    simp only [List.length_append, List.length_take, List.length_cons, List.length_drop, seal_len] at this
    omega
  by_cases hkb : k < (bodyOf xs).length
  · -- the byte stands in the body
    have e1 : (bodyOf xs ++ sealOf (bodyOf xs)).take k ++ c :: (bodyOf xs ++ sealOf (bodyOf xs)).drop (k + 1) = ((bodyOf xs).take k ++ c :: (bodyOf xs).drop (k + 1)) ++ sealOf (bodyOf xs) := by
      rw [List.take_append_of_le_length (by omega), List.drop_append_of_le_length (by omega)]; simp
    rw [e1] at hE
    have hl1 : ((bodyOf xs).take k ++ c :: (bodyOf xs).drop (k + 1)).length = (bodyOf ys).length := by
      simp only [List.length_append, List.length_take, List.length_cons, List.length_drop]; omega
    obtain ⟨e2, e3⟩ := List.append_inj hE hl1
    have hne2 : c ≠ (bodyOf xs)[k] := by
      intro h
      apply hne
      rw [hT, List.getElem?_append_left (by rw [hfl]; omega), List.getElem?_append_left hkb, List.getElem?_eq_getElem hkb, h]
    have h5 := add_apart 1 ((bodyOf xs).take k) ((bodyOf xs).drop (k + 1)) hne2
    rw [e2] at h5
    rw [← List.drop_eq_getElem_cons hkb, List.take_append_drop] at h5
    exact h5 (hex_inj (add_lt _ _) (add_lt _ _) e3.symm)
  · -- the byte stands among the digits
    have hkb' : (bodyOf xs).length ≤ k := by omega
    have e1 : (bodyOf xs ++ sealOf (bodyOf xs)).take k ++ c :: (bodyOf xs ++ sealOf (bodyOf xs)).drop (k + 1) = bodyOf xs ++ ((sealOf (bodyOf xs)).take (k - (bodyOf xs).length) ++ c :: (sealOf (bodyOf xs)).drop (k - (bodyOf xs).length + 1)) := by
      rw [List.take_append, List.drop_append, List.take_of_length_le hkb', List.drop_eq_nil_of_le (by omega), show k + 1 - (bodyOf xs).length = k - (bodyOf xs).length + 1 by omega]
      simp
    rw [e1] at hE
    obtain ⟨e2, e3⟩ := List.append_inj hE hbl.symm
    rw [← e2] at e3
    apply hne
    have hk8 : k - (bodyOf xs).length < (sealOf (bodyOf xs)).length := by rw [seal_len]; omega
    rw [hT, List.getElem?_append_left (by rw [hfl]; omega), List.getElem?_append_right hkb', ← e3, List.getElem?_append_right (by rw [List.length_take]; omega)]
    have : k - (bodyOf xs).length - ((sealOf (bodyOf xs)).take (k - (bodyOf xs).length)).length = 0 := by rw [List.length_take]; omega
    rw [this]; rfl

end Go.Proofs.YtchnbnmajagpjaaGreatDoor

namespace Go.Proofs.YtchnbnmajagpjaaGreatDoor
open Go.RowKit

def aggN (h : Nat × Nat) : Value := .agg #[.int .u32 h.1, .int .u32 h.2]
theorem and_half (n : Nat) (hn : n < 4294967296) : bits .and .u32 (n : Int) 65535 = ((n % 65536 : Nat) : Int) := by
  have := u32_and_nat n 65535 hn (by decide)
  rw [show (65535 : Nat) = 2 ^ 16 - 1 from rfl, Nat.and_two_pow_sub_one_eq_mod] at this
  exact this
theorem or_halves (a b : Nat) (ha : a < 65521) (hb : b < 65521) : bits .or .u32 ((b : Int) * 65536) (a : Int) = ((b * 65536 + a : Nat) : Int) := by
  have := u32_or_nat (b * 65536) a (by omega) (by omega)
  rw [show b * 65536 ||| a = b * 65536 + a from by
    have h := Nat.two_pow_add_eq_or_of_lt (i := 16) (b := a) (by omega) b
    rw [show 2 ^ 16 * b = b * 65536 by omega] at h
    exact h.symm] at this
  rw [show (b : Int) * 65536 = ((b * 65536 : Nat) : Int) by omega]
  exact this
theorem agg_eq {a b : Int} {h : Nat × Nat} (ha : a = h.1) (hb : b = h.2) : Ending.returned (.agg #[.int .u32 a, .int .u32 b]) = .returned (aggN h) := by rw [ha, hb]; rfl
set_option maxHeartbeats 400000 in
theorem split_any (n : Nat) (hn : n < 4294967296) (w : World) : Calls Tryz.prog 131 #[.int .u32 n] w fun e w' => e = .returned (aggN (halvesN n)) ∧ Below w.heap.size w w' := by
  have e1 := and_half n hn
  go_enter Tryz.func131, Tryz.ntmps131
  go_wp2
  refine bodyPost_ret (v := aggN (halvesN n)) ?_ rfl ⟨rfl, (Below.refl _ _).alloc (Nat.le_refl _) _⟩
  simp [results, Tryz.results131, go_sem]
  rfl
set_option maxHeartbeats 400000 in
theorem with_any (a b : Nat) (ha : a < 65521) (hb : b < 65521) (c : UInt8) (w : World) : Calls Tryz.prog 132 #[.agg #[.int .u32 a, .int .u32 b], .int .u8 c.toNat] w fun e w' => e = .returned (aggN (stepN (a, b) c)) ∧ Below w.heap.size w w' := by
  have hc := UInt8.toNat_lt c
  have HE : Hid (((b : Int) + ((a : Int) + c.toNat)) % 65521 = (((b + (a + c.toNat) % 65521) % 65521 : Nat) : Int)) := by show _ = _; omega
  go_enter Tryz.func132, Tryz.ntmps132
  go_wp2
  refine bodyPost_ret (v := aggN (stepN (a, b) c)) ?_ rfl ⟨rfl, ((Below.refl _ _).alloc (Nat.le_refl _) _).alloc (by simp) _⟩
  simp [results, Tryz.results132, go_sem]
  rw [HE.out]
  rfl
set_option maxHeartbeats 400000 in
theorem joined_any (a b : Nat) (ha : a < 65521) (hb : b < 65521) (w : World) : Calls Tryz.prog 133 #[.agg #[.int .u32 a, .int .u32 b]] w fun e w' => e = .returned (.int .u32 (joinN (a, b))) ∧ Below w.heap.size w w' := by
  have e1 := or_halves a b ha hb
  go_enter Tryz.func133, Tryz.ntmps133
  go_wp2
  go_ret
  exact ⟨rfl, (Below.refl _ _).alloc (Nat.le_refl _) _⟩
def AtN (B g : Nat) (a b : Nat) (w w' : World) : Prop := w'.cell? ⟨g, 0, none⟩ = some (.int .u32 a) ∧ w'.cell? ⟨g, 1, none⟩ = some (.int .u32 b) ∧ w'.frozen? ⟨g, 0, none⟩ = false ∧ w'.frozen? ⟨g, 1, none⟩ = false ∧ g < w'.heap.size ∧ Below B w w'
theorem AtN.below {B g a b : Nat} {w wq w' : World} (h : AtN B g a b w wq) (hgB : B ≤ g) (hb : Below wq.heap.size wq w') : AtN B g a b w w' := by
  obtain ⟨h0, h1, f0, f1, hg, hB⟩ := h
  have hz := hb.size
  exact ⟨(hb.cell (p := ⟨g, 0, none⟩) hg).trans h0, (hb.cell (p := ⟨g, 1, none⟩) hg).trans h1, (hb.frozen (p := ⟨g, 0, none⟩) hg).trans f0, (hb.frozen (p := ⟨g, 1, none⟩) hg).trans f1, by omega, hB.trans (hb.mono (by omega))⟩
theorem AtN.drew {B g a b : Nat} {w wq : World} (h : AtN B g a b w wq) : AtN B g a b w wq.drew := by
  obtain ⟨h0, h1, f0, f1, hg, hB⟩ := h
  exact ⟨h0, h1, f0, f1, hg, hB.drew⟩
theorem AtN.put {B g a b : Nat} {w wq : World} (h : AtN B g a b w wq) (hg : B ≤ g) (a' b' : Nat) : AtN B g a' b' w ((wq.setCell ⟨g, 0, none⟩ (.int .u32 a')).setCell ⟨g, 1, none⟩ (.int .u32 b')) := by
  obtain ⟨h0, h1, f0, f1, hg', hB⟩ := h
  have n1 : (⟨g, 0, none⟩ : Addr) ≠ ⟨g, 1, none⟩ := by simp
  have e1 : (wq.setCell ⟨g, 0, none⟩ (.int .u32 a')).cell? ⟨g, 1, none⟩ = some (.int .u32 b) := (World.cell?_setCell_other _ _ _ _ n1).trans h1
  exact ⟨(World.cell?_setCell_other _ _ _ _ n1.symm).trans (World.cell?_setCell_same _ _ _ h0), World.cell?_setCell_same _ _ _ e1, by simpa using f0, by simpa using f1, by simpa using hg', (hB.setCell hg _).setCell hg _⟩
set_option maxRecDepth 100000 in
set_option maxHeartbeats 1000000 in
theorem add_any (n : Nat) (hn : n < 4294967296) (s : ByteArray) (hs : s.size ≤ maxLen) (w : World) : Calls Tryz.prog 114 #[.int .u32 n, .string s] w fun e w' => e = .returned (.int .u32 (addN n s.data.toList)) ∧ Below w.heap.size w w' := by
  unfold maxLen at hs
  obtain ⟨a0, b0, h0⟩ : ∃ a b, halvesN n = (a, b) := ⟨_, _, rfl⟩
  have hsp := split_any n hn
  rw [h0] at hsp
  have HS : Hid (∀ w, Calls Tryz.prog 131 #[.int .u32 n] w fun e w' => e = .returned (.agg #[.int .u32 a0, .int .u32 b0]) ∧ Below w.heap.size w w') := hsp
  have H0 := Lib.hid h0
  clear hsp h0
  go_enter Tryz.func114, Tryz.ntmps114
  go_wp2_with fail
  refine (HS.out _).mono ?_
  rintro e w1 ⟨rfl, hb1⟩
  have hz1 := hb1.size
  go_wp2_with fail
  go_loopw [11, 6] (fun i _ wr => ∃ k a b : Nat, k ≤ s.size ∧ i = .int .i64 k ∧ Hid (runN (halvesN n) (s.data.toList.take k) = (a, b)) ∧ AtN w.heap.size w1.heap.size a b w wr) (fun i _ _ => s.size - (intOf i).toNat)
  case atStart => exact ⟨0, a0, b0, Nat.zero_le _, rfl, H0.out, by simp, by simp, by simp, by simp, by simp, hb1.alloc hz1 _⟩
  case round =>
    obtain ⟨k, a, b, hk, rfl, HR, hc0, hc1, hf0, hf1, hg, hB⟩ := hrel
    have hlow : LowN (a, b) := by rw [← HR.out]; exact run_low (halves_low n) _
    obtain ⟨ha, hb⟩ := hlow
    have ha : a < 65521 := ha
    have hb : b < 65521 := hb
    by_cases hlt : k < s.size
    · obtain ⟨a', b', h'⟩ : ∃ a' b', stepN (a, b) s[k] = (a', b') := ⟨_, _, rfl⟩
      have HR' : Hid (runN (halvesN n) (s.data.toList.take (k + 1)) = (a', b')) := by show _ = _; rw [run_take _ s k hlt, HR.out, h']
      have hw := with_any a b ha hb s[k]
      rw [h'] at hw
      have HW : Hid (∀ wq, AtN w.heap.size w1.heap.size a b w wq → Calls Tryz.prog 132 #[.agg #[.int .u32 a, .int .u32 b], .int .u8 s[k].toNat] wq fun e w' => e = .returned (.agg #[.int .u32 a', .int .u32 b']) ∧ AtN w.heap.size w1.heap.size a b w w') :=
        fun wq hq => (hw wq).mono fun e w' h => ⟨h.1, hq.below hz1 h.2⟩
      have HA : AtN w.heap.size w1.heap.size a b w wr := ⟨hc0, hc1, hf0, hf1, hg, hB⟩
      clear hw h'
      go_wp2_with fail
      go_region_with (go_at_call 132; refine (HW.out _ (by first | assumption | exact HA.drew)).mono ?_; rintro e w2 ⟨rfl, HA2⟩; obtain ⟨gc0, gc1, gf0, gf1, gg, gB⟩ := id HA2)
      all_goals
        have HA3 := HA2.put hz1 a' b'
        clear HW HA HA2 gc0 gc1 gf0 gf1 gg gB hc0 hc1 hf0 hf1 hg hB
        go_wp2_with fail
        go_roundw
        case rel => exact ⟨k + 1, a', b', hlt, by go_num, HR', HA3⟩
        case measure => simp [intOf]; omega
    · have HJ := Lib.hid (joined_any a b ha hb)
      go_wp2_with fail
      refine (HJ.out _).mono ?_
      rintro e w2 ⟨rfl, hb2⟩
      go_wp2_with fail
      go_ret
      refine ⟨?_, hB.trans (hb2.mono hB.size)⟩
      have e1 := HR.out
      rw [List.take_of_length_le (by rw [Array.length_toList]; exact Nat.le_of_not_lt hlt)] at e1
      rw [addN, e1]
      rfl

end Go.Proofs.YtchnbnmajagpjaaGreatDoor

namespace Go.Proofs.YtchnbnmajagpjaaGreatDoor
open Go.RowKit

theorem and_digit (n : Nat) (hn : n < 4294967296) : bits .and .u32 (n : Int) 15 = ((n % 16 : Nat) : Int) := by
  have := u32_and_nat n 15 hn (by decide)
  rw [show (15 : Nat) = 2 ^ 4 - 1 from rfl, Nat.and_two_pow_sub_one_eq_mod] at this
  exact this
def cellsH (n k : Nat) : Array Value := ((List.replicate (8 - k) 0 ++ digsN n k).map fun c : UInt8 => Value.int .u8 c.toNat).toArray
theorem digs_tab : ∀ k : Fin 16, (⟨#[48, 49, 50, 51, 52, 53, 54, 55, 56, 57, 97, 98, 99, 100, 101, 102]⟩ : ByteArray)[k.1]'(k.2) = hxB k.1 := by decide
theorem dig_tab (k : Nat) (h : k < 16) : (⟨#[48, 49, 50, 51, 52, 53, 54, 55, 56, 57, 97, 98, 99, 100, 101, 102]⟩ : ByteArray)[k]'h = hxB k := digs_tab ⟨k, h⟩
theorem cellsH_size (n k : Nat) (h : k ≤ 8) : (cellsH n k).size = 8 := by simp [cellsH, digs_len]; omega
theorem cellsH_at (n k : Nat) (h : k < 8) : (cellsH n k)[7 - k]? = some (.int .u8 0) := by
  simp [cellsH]
  rw [List.getElem?_append_left (by simp; omega), List.getElem?_replicate_of_lt (by omega)]
theorem cellsH_next (n k : Nat) (h : k < 8) : (cellsH n k).setIfInBounds (7 - k) (.int .u8 (hxB (n / 16 ^ k % 16)).toNat) = cellsH n (k + 1) := by
  unfold cellsH
  rw [show 8 - k = (7 - k) + 1 by omega, show 8 - (k + 1) = 7 - k by omega, List.replicate_succ', digsN]
  apply Array.ext'
  simp only [Array.toList_setIfInBounds, List.map_append, List.append_assoc, List.map_cons, List.map_nil]
  rw [List.set_append_right _ _ (by simp)]
  simp
theorem conv_at (w : World) (g : Nat) (l : List UInt8) (t : TypeId) (cap : Nat) (e : w.heap[g]? = some (.cells (l.map fun c : UInt8 => Value.int .u8 c.toNat).toArray t)) :
    (convert 126 9 (.slice (some ⟨g, 0, none⟩) l.length cap)).run Tryz.prog w = .ok (.string (txt l)) w := by
  refine run_convert_bytes_back _ 126 9 5 ⟨g, 0, none⟩ cap l Tryz.underlying126 Tryz.underlying5 Tryz.underlying9 (fun j hj => ?_)
  have e3 : (⟨g, 0, none⟩ : Addr).add j = ⟨g, j, none⟩ := by unfold Addr.add; split <;> simp_all
  rw [e3]
  unfold World.cell?
  simp only [e]
  simp [hj]
theorem conv_new (w : World) (l : List UInt8) (t : TypeId) (cap : Nat) :
    (convert 126 9 (.slice (some ⟨w.heap.size, 0, none⟩) l.length cap)).run Tryz.prog (w.alloc (.cells (l.map fun c : UInt8 => Value.int .u8 c.toNat).toArray t)) = .ok (.string (txt l)) (w.alloc (.cells (l.map fun c : UInt8 => Value.int .u8 c.toNat).toArray t)) :=
  conv_at _ _ l t cap (World.alloc_heap_new w _)
theorem conv_new_drew (w : World) (l : List UInt8) (t : TypeId) (cap : Nat) :
    (convert 126 9 (.slice (some ⟨w.heap.size, 0, none⟩) l.length cap)).run Tryz.prog (w.alloc (.cells (l.map fun c : UInt8 => Value.int .u8 c.toNat).toArray t)).drew = .ok (.string (txt l)) (w.alloc (.cells (l.map fun c : UInt8 => Value.int .u8 c.toNat).toArray t)).drew :=
  conv_at _ _ l t cap (World.alloc_heap_new w _)
set_option maxRecDepth 100000 in
set_option maxHeartbeats 1000000 in
theorem hex_any (n : Nat) (hn : n < 4294967296) (w : World) : Calls Tryz.prog 99 #[.int .u32 n] w fun e w' => e = .returned (.string (txt (hexN n))) ∧ Below w.heap.size w w' := by
  go_enter Tryz.func99, Tryz.ntmps99
  go_wp2_with fail
  go_loopw [0, 6] (fun v i wr => ∃ (k m : Nat) (C : Array Value), k ≤ 8 ∧ i = .int .i64 k ∧ v = .int .u32 m ∧ Hid (m = n / 16 ^ k) ∧ Hid (C = cellsH n k) ∧ wr = w.alloc (.cells C 163)) (fun _ i _ => 8 - (intOf i).toNat)
  case atStart => exact ⟨0, n, _, Nat.zero_le _, rfl, rfl, by show _ = _; simp, rfl, rfl⟩
  case round =>
    obtain ⟨k, m, C, hk, rfl, rfl, HM, HC, rfl⟩ := hrel
    have hm : m < 4294967296 := by rw [HM.out]; exact Nat.lt_of_le_of_lt (Nat.div_le_self _ _) hn
    by_cases hlt : k < 8
    · have e1 := and_digit m hm
      have e2 : C[7 - k]? = some (.int .u8 0) := by rw [HC.out]; exact cellsH_at n k hlt
      have hd := dig_tab (m % 16) (Nat.mod_lt _ (by decide))
      have HN : Hid (C.setIfInBounds (7 - k) (.int .u8 (hxB (m % 16)).toNat) = cellsH n (k + 1)) := by show _ = _; rw [HC.out, HM.out]; exact cellsH_next n k hlt
      have HD := Lib.hid hd
      have HM2 : Hid (m / 16 = n / 16 ^ (k + 1)) := by show _ = _; rw [HM.out, Nat.div_div_eq_div_mul, ← Nat.pow_succ]
      clear hd
      go_wp2_with fail
      go_roundw
      case rel => exact ⟨k + 1, m / 16, _, hlt, by go_num, by go_num, HM2, HN, by rw [HD.out]⟩
      case measure => simp [intOf]; omega
    · obtain rfl : k = 8 := by omega
      obtain ⟨x0, x1, x2, x3, x4, x5, x6, x7, hx⟩ : ∃ x0 x1 x2 x3 x4 x5 x6 x7, hexN n = [x0, x1, x2, x3, x4, x5, x6, x7] := ⟨_, _, _, _, _, _, _, _, rfl⟩
      have hC : C = #[.int .u8 x0.toNat, .int .u8 x1.toNat, .int .u8 x2.toNat, .int .u8 x3.toNat, .int .u8 x4.toNat, .int .u8 x5.toNat, .int .u8 x6.toNat, .int .u8 x7.toNat] := by
        rw [HC.out, cellsH, show digsN n 8 = _ from hx]; rfl
      subst hC
      have HX := Lib.hid hx
      clear hx HC HM
      have hcv : (convert 126 9 (.slice (some ⟨w.heap.size, 0, none⟩) 8 8)).run Tryz.prog (w.alloc (.cells #[.int .u8 x0.toNat, .int .u8 x1.toNat, .int .u8 x2.toNat, .int .u8 x3.toNat, .int .u8 x4.toNat, .int .u8 x5.toNat, .int .u8 x6.toNat, .int .u8 x7.toNat] 163)) = .ok (.string (txt [x0, x1, x2, x3, x4, x5, x6, x7])) (w.alloc (.cells #[.int .u8 x0.toNat, .int .u8 x1.toNat, .int .u8 x2.toNat, .int .u8 x3.toNat, .int .u8 x4.toNat, .int .u8 x5.toNat, .int .u8 x6.toNat, .int .u8 x7.toNat] 163)) := by
        exact conv_new w [x0, x1, x2, x3, x4, x5, x6, x7] 163 8
      go_wp2_with fail
      go_ret
      exact ⟨by rw [HX.out]; rfl, (Below.refl _ _).alloc (Nat.le_refl _) _⟩

end Go.Proofs.YtchnbnmajagpjaaGreatDoor

namespace Go.Proofs.YtchnbnmajagpjaaGreatDoor
open Go.RowKit

set_option maxHeartbeats 400000 in
theorem of_any (s : ByteArray) (hs : s.size ≤ maxLen) (w : World) : Calls Tryz.prog 100 #[.string s] w fun e w' => e = .returned (.int .u32 (addN 1 s.data.toList)) ∧ Below w.heap.size w w' := by
  have HA := Lib.hid (add_any 1 (by decide) s hs)
  clear hs
  go_enter Tryz.func100, Tryz.ntmps100
  go_wp2_with fail
  refine (HA.out _).mono ?_
  rintro e w1 ⟨rfl, hb1⟩
  go_wp2_with fail
  go_ret
  exact ⟨rfl, hb1⟩
set_option maxRecDepth 100000 in
set_option maxHeartbeats 1000000 in
theorem radd_any (n : Nat) (hn : n < 4294967296) (s : ByteArray) (hs : s.size ≤ maxLen) (w : World) : Calls Tryz.prog 103 #[.int .u32 n, .string s] w fun e w' => e = .returned (.int .u32 (addN n s.data.toList)) ∧ w' = w := by
  unfold maxLen at hs
  go_enter Tryz.func103, Tryz.ntmps103
  go_wp2_with fail
  go_loop [5, 6, 7] (fun va vb i => ∃ k a b : Nat, k ≤ s.size ∧ i = .int .i64 k ∧ va = .int .i64 a ∧ vb = .int .i64 b ∧ Hid (runN (halvesN n) (s.data.toList.take k) = (a, b))) (fun _ _ i => s.size - (intOf i).toNat)
  case atStart => exact ⟨0, n % 65536 % 65521, n / 65536 % 65521, Nat.zero_le _, rfl, by go_num, by go_num, rfl⟩
  case round =>
    obtain ⟨k, a, b, hk, rfl, rfl, rfl, HR⟩ := hrel
    have hlow : LowN (a, b) := by rw [← HR.out]; exact run_low (halves_low n) _
    obtain ⟨ha, hb⟩ := hlow
    have ha : a < 65521 := ha
    have hb : b < 65521 := hb
    by_cases hlt : k < s.size
    · have HR' : Hid (runN (halvesN n) (s.data.toList.take (k + 1)) = ((a + s[k].toNat) % 65521, (b + (a + s[k].toNat) % 65521) % 65521)) := by show _ = _; rw [run_take _ s k hlt, HR.out]; rfl
      have hc := UInt8.toNat_lt s[k]
      go_wp2_with fail
      go_round
      case rel => exact ⟨k + 1, _, _, hlt, by go_num, by go_num, by go_num, HR'⟩
      case measure => simp [intOf]; omega
    · go_wp2_with fail
      go_ret
      refine ⟨?_, rfl⟩
      have e1 := HR.out
      rw [List.take_of_length_le (by rw [Array.length_toList]; exact Nat.le_of_not_lt hlt)] at e1
      rw [addN, e1]
      rfl
set_option maxHeartbeats 400000 in
theorem rof_any (s : ByteArray) (hs : s.size ≤ maxLen) (w : World) : Calls Tryz.prog 80 #[.string s] w fun e w' => e = .returned (.int .u32 (addN 1 s.data.toList)) ∧ w' = w := by
  have HA := Lib.hid (radd_any 1 (by decide) s hs)
  clear hs
  go_enter Tryz.func80, Tryz.ntmps80
  go_wp2_with fail
  refine (HA.out _).mono ?_
  rintro e w1 ⟨rfl, rfl⟩
  go_wp2_with fail
  go_ret
  exact ⟨rfl, rfl⟩
theorem dig_ext (k : Nat) (h : k < 16) : (⟨#[48, 49, 50, 51, 52, 53, 54, 55, 56, 57, 97, 98, 99, 100, 101, 102]⟩ : ByteArray).extract k (k + 1) = txt [hxB k] := by
  rw [extract_txt]
  have : ∀ k : Fin 16, (List.drop k.1 (⟨#[48, 49, 50, 51, 52, 53, 54, 55, 56, 57, 97, 98, 99, 100, 101, 102]⟩ : ByteArray).data.toList).take 1 = [hxB k.1] := by decide
  rw [show k + 1 - k = 1 by omega]
  exact congrArg txt (this ⟨k, h⟩)
theorem dig_slice (m : Nat) (w : World) : (Instr.slice 9 (.string ⟨#[48, 49, 50, 51, 52, 53, 54, 55, 56, 57, 97, 98, 99, 100, 101, 102]⟩) (some (.int .i64 ((m : Int) % 16))) (some (.int .i64 ((m : Int) % 16 + 1))) none).run Tryz.prog w = .ok (.string (txt [hxB (m % 16)])) w := by
  have h : m % 16 < 16 := Nat.mod_lt _ (by decide)
  have e : (m : Int) % 16 = ((m % 16 : Nat) : Int) := by omega
  rw [e]
  generalize m % 16 = k at h
  rw [run_slice_string _ _ _ _ _ _ _ Tryz.underlying9 (by omega) (by omega) (by show ((k : Int) + 1) ≤ ((16 : Nat) : Int); omega)]
  rw [show ((k : Int) + 1).toNat = k + 1 by omega, show ((k : Int)).toNat = k by omega, dig_ext k h]
theorem digs_next (n k : Nat) : txt [hxB (n / 16 ^ k % 16)] ++ txt (digsN n k) = txt (digsN n (k + 1)) := by
  rw [← txt_toList (txt [hxB (n / 16 ^ k % 16)] ++ txt (digsN n k))]
  simp [ByteArray.data_append, txt, digsN]
set_option maxRecDepth 100000 in
set_option maxHeartbeats 1000000 in
theorem rhex_any (n : Nat) (hn : n < 4294967296) (w : World) : Calls Tryz.prog 79 #[.int .u32 n] w fun e w' => e = .returned (.string (txt (hexN n))) ∧ w' = w := by
  go_enter Tryz.func79, Tryz.ntmps79
  go_wp2_with fail
  go_loop [0, 3, 4] (fun v u i => ∃ (k m : Nat) (t : ByteArray), k ≤ 8 ∧ i = .int .i64 k ∧ v = .int .u32 m ∧ u = .string t ∧ t.size ≤ 8 ∧ Hid (m = n / 16 ^ k) ∧ Hid (t = txt (digsN n k))) (fun _ _ i => 8 - (intOf i).toNat)
  case atStart => exact ⟨0, n, _, Nat.zero_le _, rfl, rfl, rfl, by decide, by show _ = _; simp, rfl⟩
  case round =>
    obtain ⟨k, m, t, hk, rfl, rfl, rfl, ht, HM, HT⟩ := hrel
    have hm : m < 4294967296 := by rw [HM.out]; exact Nat.lt_of_le_of_lt (Nat.div_le_self _ _) hn
    by_cases hlt : k < 8
    · have hd := dig_slice m w
      have HN : Hid (txt [hxB (m % 16)] ++ t = txt (digsN n (k + 1))) := by show _ = _; rw [HM.out, HT.out]; exact digs_next n k
      have HM2 : Hid (m / 16 = n / 16 ^ (k + 1)) := by show _ = _; rw [HM.out, Nat.div_div_eq_div_mul, ← Nat.pow_succ]
      have hz : (txt [hxB (m % 16)] ++ t).size ≤ 8 := by rw [HN.out, txt_size, digs_len]; omega
      have hz2 : (txt [hxB (m % 16)]).size = 1 := rfl
      generalize txt [hxB (m % 16)] = u at hd HN hz hz2
      have hz3 : ¬ 9223372036854775807 < u.size + t.size := by omega
      clear hz2
      go_wp2_with fail
      go_round
      case rel => exact ⟨k + 1, m / 16, _, hlt, by go_num, by go_num, rfl, hz, HM2, HN⟩
      case measure => simp [intOf]; omega
    · obtain rfl : k = 8 := by omega
      go_wp2_with fail
      go_ret
      exact ⟨by rw [HT.out]; rfl, rfl⟩

end Go.Proofs.YtchnbnmajagpjaaGreatDoor

namespace Go.Proofs.YtchnbnmajagpjaaGreatDoor
open Go.RowKit Go.Shelf

theorem hexOf_get (i : Nat) (h : i < 16) : ([48, 49, 50, 51, 52, 53, 54, 55, 56, 57, 65, 66, 67, 68, 69, 70] : List UInt8)[i]? = some (hexOf i) := by
  match i, h with
  | 0, _ => rfl
  | 1, _ => rfl
  | 2, _ => rfl
  | 3, _ => rfl
  | 4, _ => rfl
  | 5, _ => rfl
  | 6, _ => rfl
  | 7, _ => rfl
  | 8, _ => rfl
  | 9, _ => rfl
  | 10, _ => rfl
  | 11, _ => rfl
  | 12, _ => rfl
  | 13, _ => rfl
  | 14, _ => rfl
  | 15, _ => rfl
  | _ + 16, h => exact absurd h (by omega)
theorem hex_case (a : UInt8) : (Lib.indexByte [48, 49, 50, 51, 52, 53, 54, 55, 56, 57, 65, 66, 67, 68, 69, 70] a = -1 ∧ ∀ i, i < 16 → hexOf i ≠ a) ∨ ∃ i : Nat, i < 16 ∧ Lib.indexByte [48, 49, 50, 51, 52, 53, 54, 55, 56, 57, 65, 66, 67, 68, 69, 70] a = i ∧ hexOf i = a := by
  have hge := Lib.indexByte_ge [48, 49, 50, 51, 52, 53, 54, 55, 56, 57, 65, 66, 67, 68, 69, 70] a
  rcases Int.lt_or_le (Lib.indexByte [48, 49, 50, 51, 52, 53, 54, 55, 56, 57, 65, 66, 67, 68, 69, 70] a) 0 with h | h
  · left
    have h1 : Lib.indexByte [48, 49, 50, 51, 52, 53, 54, 55, 56, 57, 65, 66, 67, 68, 69, 70] a = -1 := by omega
    refine ⟨h1, fun i hi e => ?_⟩
    have := Lib.indexByte_none h1 i
    rw [hexOf_get i hi, e] at this
    exact this rfl
  · right
    obtain ⟨o, ho⟩ : ∃ o : Nat, Lib.indexByte [48, 49, 50, 51, 52, 53, 54, 55, 56, 57, 65, 66, 67, 68, 69, 70] a = o := ⟨(Lib.indexByte [48, 49, 50, 51, 52, 53, 54, 55, 56, 57, 65, 66, 67, 68, 69, 70] a).toNat, by omega⟩
    have h1 := (Lib.indexByte_some ho).1
    have hlt : o < 16 := by
      have := (List.getElem?_eq_some_iff.1 h1).1
      simpa using this
    refine ⟨o, hlt, ho, ?_⟩
    rw [hexOf_get o hlt] at h1
    exact Option.some.inj h1
/-- What the first bytes of a text are the quoted form of: c and k bytes; k = 0: of nothing. -/
def FirstIs (l : List UInt8) (c : Int) (k : Int) : Prop :=
  (c = 0 ∧ k = 0 ∧ ∀ d r, l ≠ quo d ++ r) ∨ ∃ (d : UInt8) (r : List UInt8), c = d.toNat ∧ k = (quo d).length ∧ l = quo d ++ r
def FirstPost (l : List UInt8) (w : World) (e : Ending) (w' : World) : Prop := ∃ c k : Int, e = .returned (.tuple #[.int .u8 c, .int .i64 k]) ∧ FirstIs l c k ∧ ∃ m, w' = w.drewN m
theorem first_none {l : List UInt8} {w : World} {w' : World} (h : ∀ d r, l ≠ quo d ++ r) (hb : ∃ m, w' = w.drewN m) : FirstPost l w (.returned (.tuple #[.int .u8 0, .int .i64 0])) w' := ⟨0, 0, rfl, .inl ⟨rfl, rfl, h⟩, hb⟩
theorem first_plain {l : List UInt8} {c : UInt8} {r : List UInt8} {w w' : World} (h : l = c :: r) (hp : plainB c = true) (hb : ∃ m, w' = w.drewN m) : FirstPost l w (.returned (.tuple #[.int .u8 (c.toNat : Int), .int .i64 1])) w' :=
  ⟨_, _, rfl, .inr ⟨c, r, rfl, by simp [quo, hp], by simp [quo, hp, h]⟩, hb⟩
theorem none_head {c : UInt8} {r : List UInt8} (hp : plainB c = false) (h : c ≠ 37) : ∀ d t, c :: r ≠ quo d ++ t := by
  intro d t e
  unfold quo at e
  split at e
  · rename_i hd
    simp only [List.cons_append, List.nil_append, List.cons.injEq] at e
    rw [e.1, hd] at hp; cases hp
  · simp only [List.cons_append, List.cons.injEq] at e
    exact h e.1
theorem cases37 {r : List UInt8} {d : UInt8} {t : List UInt8} (e : 37 :: r = quo d ++ t) : plainB d = false ∧ r = hexOf (d.toNat / 16) :: hexOf (d.toNat % 16) :: t := by
  unfold quo at e
  split at e
  · rename_i hd
    simp only [List.cons_append, List.nil_append, List.cons.injEq] at e
    have : plainB 37 = false := rfl
    rw [e.1, hd] at this; cases this
  · rename_i hd
    simp only [List.cons_append, List.nil_append, List.cons.injEq, true_and] at e
    exact ⟨by simpa using hd, e⟩
theorem none_short {r : List UInt8} (h : r.length < 2) : ∀ d t, 37 :: r ≠ quo d ++ t := fun d t e => by
  rw [(cases37 e).2] at h; simp at h; omega
theorem none_hex1 {a b : UInt8} {r : List UInt8} (h : ∀ i, i < 16 → hexOf i ≠ a) : ∀ d t, 37 :: a :: b :: r ≠ quo d ++ t := fun d t e => by
  have := (cases37 e).2
  simp only [List.cons.injEq] at this
  have hd := d.toNat_lt
  exact h _ (by omega) this.1.symm
theorem none_hex2 {a b : UInt8} {r : List UInt8} (h : ∀ i, i < 16 → hexOf i ≠ b) : ∀ d t, 37 :: a :: b :: r ≠ quo d ++ t := fun d t e => by
  have := (cases37 e).2
  simp only [List.cons.injEq] at this
  exact h _ (Nat.mod_lt _ (by omega)) this.2.1.symm
theorem none_plain {i j : Nat} {c : UInt8} {r : List UInt8} (hi : i < 16) (hj : j < 16) (hc : c.toNat = 16 * i + j) (hp : plainB c = true) : ∀ d t, 37 :: hexOf i :: hexOf j :: r ≠ quo d ++ t := fun d t e => by
  obtain ⟨h1, h2⟩ := cases37 e
  simp only [List.cons.injEq] at h2
  have hd := d.toNat_lt
  have e1 := hexOf_inj _ _ hi (by omega) h2.1
  have e2 := hexOf_inj _ _ hj (Nat.mod_lt _ (by omega)) h2.2.1
  have : c = d := UInt8.toNat_inj.1 (by omega)
  rw [← this, hp] at h1; cases h1
theorem first_hex {i j : Nat} {c : UInt8} {r : List UInt8} {w w' : World} (hj : j < 16) (hc : c.toNat = 16 * i + j) (hp : plainB c = false) (hb : ∃ m, w' = w.drewN m) : FirstPost (37 :: hexOf i :: hexOf j :: r) w (.returned (.tuple #[.int .u8 (c.toNat : Int), .int .i64 3])) w' := by
  refine ⟨_, _, rfl, .inr ⟨c, r, rfl, by simp [quo, hp], ?_⟩, hb⟩
  rw [quo, if_neg (by rw [hp]; simp), show c.toNat / 16 = i by omega, show c.toNat % 16 = j by omega]
  rfl
theorem bits_or (i j : Nat) (hi : i < 16) (hj : j < 16) : bits BinOp.or IntKind.i64 ((i : Int) * 16) (j : Int) % 256 = ((16 * i + j : Nat) : Int) := by
  have main : ∀ i : Fin 16, ∀ j : Fin 16, bits BinOp.or IntKind.i64 ((i.val : Int) * 16) (j.val : Int) % 256 = ((16 * i.val + j.val : Nat) : Int) := by decide +kernel
  exact main ⟨i, hi⟩ ⟨j, hj⟩
theorem cons_list (s : ByteArray) (h : 0 < s.size) : s.data.toList = s[0] :: s.data.toList.drop 1 := by
  have h' : 0 < s.data.toList.length := by rw [Array.length_toList]; exact h
  have := List.drop_eq_getElem_cons h'
  rw [List.drop_zero, Array.getElem_toList] at this
  exact this
theorem cons3_list (s : ByteArray) (h : 2 < s.size) : s.data.toList = s[0] :: s[1] :: s[2] :: s.data.toList.drop 3 := by
  have h' : s.data.toList.length = s.size := size_list s
  have e0 := List.drop_eq_getElem_cons (l := s.data.toList) (i := 0) (by omega)
  have e1 := List.drop_eq_getElem_cons (l := s.data.toList) (i := 1) (by omega)
  have e2 := List.drop_eq_getElem_cons (l := s.data.toList) (i := 2) (by omega)
  rw [List.drop_zero] at e0
  rw [e1, e2, Array.getElem_toList, Array.getElem_toList, Array.getElem_toList] at e0
  exact e0
theorem still_same {P : Program} {f : FuncId} {args : Array Value} {w : World} {m : Nat} {v : Value} (h : Calls P f args (w.drewN m) fun e w' => e = .returned v ∧ w' = w.drewN m) :
    Calls P f args (w.drewN m) fun e w' => e = .returned v ∧ ∃ j, w' = w.drewN j := h.mono fun _ _ h => ⟨h.1, m, h.2⟩
set_option maxRecDepth 100000 in
set_option maxHeartbeats 2000000 in
theorem first_any (s : ByteArray) (h0 : 0 < s.size) (hs : s.size ≤ maxLen) (w : World) : Calls Tryz.prog 164 #[.string s] w (FirstPost s.data.toList w) := by
  unfold maxLen at hs
  have hcl := cons_list s h0
  cases hp : plainB s[0] with
  | true =>
    have HN := Lib.hid (first_plain (w := w) (w' := w) hcl hp ⟨0, rfl⟩)
    have HP := Lib.hid hp
    clear hp hcl
    go_enter Tryz.func164, Tryz.ntmps164
    go_wp2_with (go_at_call 97; refine (isPlain_t _ _ HP.out).mono ?_; rintro e w' ⟨rfl, rfl⟩)
    go_ret2
    exact HN.out
  | false =>
    have HP := Lib.hid hp
    by_cases h37 : s[0] = 37
    · have e37 : ((s[0].toNat : Int) != 37) = false := by rw [h37]; rfl
      by_cases h3 : s.size < 3
      · have d3 : decide ((s.size : Int) < 3) = true := by simp; omega
        have HN := Lib.hid (first_none (l := s.data.toList) (w := w) (w' := w) (by rw [hcl, h37]; exact none_short (by rw [List.length_drop, size_list]; omega)) ⟨0, rfl⟩)
        clear hp hcl h37
        go_enter Tryz.func164, Tryz.ntmps164
        go_wp2_with (go_at_call 97; refine (isPlain_f _ _ HP.out).mono ?_; rintro e w' ⟨rfl, rfl⟩)
        go_ret2
        exact HN.out
      · have d3 : decide ((s.size : Int) < 3) = false := by simp; omega
        have hl3 := cons3_list s (by omega)
        rw [h37] at hl3
        have b1 : 1 < s.size := by omega
        have b2 : 2 < s.size := by omega
        have b1' : (1 : Int) < s.size := by omega
        have b2' : (2 : Int) < s.size := by omega
        have HL := Lib.hid hl3
        clear hp hcl hl3 h37
        rcases hex_case s[1] with ⟨x1, n1⟩ | ⟨i, hi, x1, n1⟩
        · have HN := Lib.hid (fun w' (hb : ∃ m, w' = w.drewN m) => first_none (l := s.data.toList) (w := w) (w' := w') (by rw [HL.out]; exact none_hex1 n1) hb)
          clear n1
          generalize Lib.indexByte [48, 49, 50, 51, 52, 53, 54, 55, 56, 57, 65, 66, 67, 68, 69, 70] s[2] = g
          go_enter Tryz.func164, Tryz.ntmps164
          go_wp2_with (go_at_call 97; refine (isPlain_f _ _ HP.out).mono ?_; rintro e w' ⟨rfl, rfl⟩)
          go_quiet ((exact still_same (indexByte_any _ _ _)))
          go_wp2
          go_ret2
          exact HN.out _ ⟨_, rfl⟩
        · rcases hex_case s[2] with ⟨x2, n2⟩ | ⟨j, hj, x2, n2⟩
          · have HN := Lib.hid (fun w' (hb : ∃ m, w' = w.drewN m) => first_none (l := s.data.toList) (w := w) (w' := w') (by rw [HL.out]; exact none_hex2 n2) hb)
            clear n1 n2
            go_enter Tryz.func164, Tryz.ntmps164
            go_wp2_with (go_at_call 97; refine (isPlain_f _ _ HP.out).mono ?_; rintro e w' ⟨rfl, rfl⟩)
            go_quiet ((exact still_same (indexByte_any _ _ _)))
            go_wp2
            go_ret2
            exact HN.out _ ⟨_, rfl⟩
          · obtain ⟨c, hc⟩ : ∃ c : UInt8, c.toNat = 16 * i + j := ⟨UInt8.ofNat (16 * i + j), by simp; omega⟩
            have HL2 : Hid (s.data.toList = 37 :: hexOf i :: hexOf j :: s.data.toList.drop 3) := by show _ = _; rw [n1, n2]; exact HL.out
            have HC := Lib.hid hc
            clear n1 n2 HL hc
            go_enter Tryz.func164, Tryz.ntmps164
            go_wp2_with (go_at_call 97; refine (isPlain_f _ _ HP.out).mono ?_; rintro e w' ⟨rfl, rfl⟩)
            go_quiet ((exact still_same (indexByte_any _ _ _)))
            go_wp2_with fail
            rw [bits_or i j hi hj, ← HC.out]
            have hb : ∃ m, w.drewN nq = w.drewN m := ⟨_, rfl⟩
            cases hp : plainB c with
            | true =>
              have HN := Lib.hid (first_none (l := s.data.toList) (w := w) (w' := w.drewN nq) (by rw [HL2.out]; exact none_plain hi hj HC.out hp) hb)
              have HPC := Lib.hid hp
              clear hp
              refine (isPlain_t c _ HPC.out).mono ?_
              rintro e w' ⟨rfl, rfl⟩
              go_wp2_with fail
              go_ret2
              exact HN.out
            | false =>
              have hF := first_hex (w := w) (w' := w.drewN nq) (r := s.data.toList.drop 3) (i := i) hj HC.out hp hb
              rw [← HL2.out] at hF
              have HN := Lib.hid hF
              have HPC := Lib.hid hp
              clear hp hF
              refine (isPlain_f c _ HPC.out).mono ?_
              rintro e w' ⟨rfl, rfl⟩
              go_wp2_with fail
              go_ret2
              exact HN.out
    · have e37 : ((s[0].toNat : Int) != 37) = true := by
        have : s[0].toNat ≠ 37 := fun h => h37 (UInt8.toNat_inj.1 (by rw [h]; rfl))
        simp; omega
      have HN := Lib.hid (first_none (l := s.data.toList) (w := w) (w' := w) (by rw [hcl]; exact none_head hp h37) ⟨0, rfl⟩)
      clear hp hcl h37
      go_enter Tryz.func164, Tryz.ntmps164
      go_wp2_with (go_at_call 97; refine (isPlain_f _ _ HP.out).mono ?_; rintro e w' ⟨rfl, rfl⟩)
      go_ret2
      exact HN.out

end Go.Proofs.YtchnbnmajagpjaaGreatDoor

namespace Go.Proofs.YtchnbnmajagpjaaGreatDoor
open Go.RowKit Go.Shelf

theorem quo_cancel {c d : UInt8} {x y : List UInt8} (e : quo c ++ x = quo d ++ y) : c = d ∧ x = y := by
  have hc := c.toNat_lt
  have hd := d.toNat_lt
  have hp37 : plainB 37 = false := rfl
  cases pc : plainB c <;> cases pd : plainB d
  · simp only [quo, pc, pd, Bool.false_eq_true, if_false, List.cons_append, List.nil_append, List.cons.injEq, true_and] at e
    obtain ⟨e1, e2, e3⟩ := e
    have h1 := hexOf_inj _ _ (by omega) (by omega) e1
    have h2 := hexOf_inj _ _ (by omega) (by omega) e2
    exact ⟨UInt8.toNat_inj.1 (by omega), e3⟩
  · simp only [quo, pc, pd, Bool.false_eq_true, if_false, if_true, List.cons_append, List.nil_append, List.cons.injEq] at e
    rw [← e.1, hp37] at pd; cases pd
  · simp only [quo, pc, pd, Bool.false_eq_true, if_false, if_true, List.cons_append, List.nil_append, List.cons.injEq] at e
    rw [e.1, hp37] at pc; cases pc
  · simp only [quo, pc, pd, if_true, List.cons_append, List.nil_append, List.cons.injEq] at e
    exact e
theorem quoAll_cons (c : UInt8) (r : List UInt8) : quoAll (c :: r) = quo c ++ quoAll r := by simp [quoAll]
theorem quoAll_prefix : ∀ (acc t : List UInt8) (rest : List UInt8), quoAll t = quoAll acc ++ rest → ∃ t', t = acc ++ t' ∧ quoAll t' = rest
  | [], t, rest, h => ⟨t, rfl, by simpa [quoAll] using h⟩
  | c :: a, [], rest, h => by
    have := congrArg List.length h
    have h2 := quo_ge c
    rw [quoAll_cons] at this
    simp only [quoAll, List.flatMap_nil, List.length_append, List.length_nil] at this
    omega
  | c :: a, d :: t, rest, h => by
    rw [quoAll_cons, quoAll_cons, List.append_assoc] at h
    obtain ⟨rfl, h2⟩ := quo_cancel h
    obtain ⟨t', h3, h4⟩ := quoAll_prefix a t rest h2
    exact ⟨t', by rw [h3]; rfl, h4⟩
def UnqIs (l : List UInt8) (e : Ending) : Prop :=
  (∀ t, quoteOf t = l → e = .returned (.tuple #[.string (txt t), .int .i64 0])) ∧ ((∀ t, quoteOf t ≠ l) → e = .returned (.tuple #[.string (txt []), .int .i64 2]))
theorem unq_one {l acc : List UInt8} (h : quoteOf acc = l) : UnqIs l (.returned (.tuple #[.string (txt acc), .int .i64 0])) :=
  ⟨fun t ht => by rw [quote_inj t acc (ht.trans h.symm)], fun hn => absurd h (hn acc)⟩
theorem unq_no {l : List UInt8} (h : ∀ t, quoteOf t ≠ l) : UnqIs l (.returned (.tuple #[.string (txt []), .int .i64 2])) :=
  ⟨fun t ht => absurd ht (h t), fun _ => rfl⟩
theorem quote_some_byte (t : List UInt8) : quoteOf t ≠ [] := by
  intro h
  have := (quote_len t).1
  rw [h] at this
  cases t with
  | nil => cases h
  | cons c r => simp at this
theorem quote_all {l acc : List UInt8} (h : quoAll acc = l) (h0 : l ≠ []) : quoteOf acc = l := by
  unfold quoteOf
  rw [if_neg, h]
  rintro rfl
  exact h0 h.symm
theorem unq_stuck {l acc rest : List UInt8} (h : l = quoAll acc ++ rest) (h37 : l ≠ [37]) (h0 : rest ≠ []) (hn : ∀ d r, rest ≠ quo d ++ r) : ∀ t, quoteOf t ≠ l := by
  intro t ht
  unfold quoteOf at ht
  split at ht
  · exact h37 ht.symm
  · obtain ⟨t', _, h2⟩ := quoAll_prefix acc t rest (ht.trans h)
    cases t' with
    | nil => exact h0 h2.symm
    | cons c r => rw [quoAll_cons] at h2; exact hn c _ h2.symm
def UnqPost (s : ByteArray) (w : World) (e : Ending) (w' : World) : Prop := UnqIs s.data.toList e ∧ Below w.heap.size w w'
set_option maxRecDepth 100000 in
set_option maxHeartbeats 2000000 in
theorem unquote_any (s : ByteArray) (hs : s.size ≤ 140737488355000) (w : World) : Calls Tryz.prog 152 #[.string s] w (UnqPost s w) := by
  by_cases h37 : s.toList = [37]
  · have e1 : (s.toList == [37]) = true := by simp [h37]
    have HN : Hid (UnqPost s w (.returned (.tuple #[.string ⟨#[]⟩, .int .i64 0])) w) := ⟨unq_one (acc := []) (by rw [← Lib.toList_data, h37]; rfl), Below.refl _ _⟩
    clear h37
    go_enter Tryz.func152, Tryz.ntmps152
    go_wp2
    go_ret2
    exact HN.out
  have e1 : (s.toList == [37]) = false := by simpa using h37
  by_cases h0 : s.toList = []
  · have HN : Hid (UnqPost s w (.returned (.tuple #[.string ⟨#[]⟩, .int .i64 2])) w) := ⟨unq_no (by rw [← Lib.toList_data, h0]; exact quote_some_byte), Below.refl _ _⟩
    clear h37
    go_enter Tryz.func152, Tryz.ntmps152
    go_wp2
    go_ret2
    exact HN.out
  have e0 : s.toList.isEmpty = false := by simpa using h0
  rw [Lib.toList_data] at h37 h0
  have H37 := Lib.hid h37
  have H0 := Lib.hid h0
  have HS := Lib.hid (size_list s)
  clear h37 h0
  go_enter Tryz.func152, Tryz.ntmps152
  go_wp2
  go_loopw [5] (fun i wr => ∃ (k : Nat) (acc : List UInt8), k ≤ s.size ∧ i = .int .i64 k ∧ quoAll acc = s.data.toList.take k ∧ Lib.IsBuilderF 128 5 w.heap.size w.heap.size (Lib.byteCells acc) wr ∧ Below w.heap.size w wr) (fun i _ => s.size - (intOf i).toNat)
  case atStart => exact ⟨0, [], Nat.zero_le _, rfl, rfl, Lib.IsBuilderF.of (Lib.fresh_isBuilder _ _ w), (Below.refl _ w).alloc (Nat.le_refl _) _⟩
  case round =>
    obtain ⟨k, acc, hk, rfl, hq, hI, hB⟩ := hrel
    have hsz := hB.size
    have hal := quoAll_ge acc
    rw [hq] at hal
    have hal2 : acc.length ≤ k := Nat.le_trans hal (List.length_take_le _ _)
    have HQ := Lib.hid hq
    clear hq hal
    by_cases hlt : k < s.size
    · have hex : (s.extract k s.size).size = s.size - k := by rw [ByteArray.size_extract]; omega
      have hdrop : (s.extract k s.size).data.toList = s.data.toList.drop k := Lib.extract_to_end s k
      have hf := first_any (s.extract k s.size) (by rw [hex]; omega) (by rw [hex]; unfold maxLen; omega) wr
      rw [hdrop] at hf
      have HF := Lib.hid hf
      clear hf hex hdrop
      go_wp2_with fail
      refine HF.out.mono ?_
      rintro e w1 ⟨c, q, rfl, hF, m1, rfl⟩
      have hB1 := below_drewN hB m1
      have hI1 : Lib.IsBuilderF 128 5 w.heap.size w.heap.size (Lib.byteCells acc) (wr.drewN m1) := hI
      rcases hF with ⟨rfl, rfl, hn⟩ | ⟨d, r, rfl, rfl, hr⟩
      · have HN : Hid (UnqPost s w (.returned (.tuple #[.string ⟨#[]⟩, .int .i64 2])) (wr.drewN m1)) := by
          refine ⟨unq_no (unq_stuck (acc := acc) (rest := s.data.toList.drop k) ?_ H37.out ?_ hn), hB1⟩
          · rw [HQ.out, List.take_append_drop]
          · intro h
            have := congrArg List.length h
            rw [List.length_drop, HS.out] at this
            simp at this; omega
        clear hn
        go_wp2_with fail
        go_ret2
        exact HN.out
      · have hq1 := quo_ge d
        have hq3 := quo_len d
        have hne : (((quo d).length : Int) == 0) = false := by rw [beq_eq_false_iff_ne]; omega
        have hkd : k + (quo d).length ≤ s.size := by
          have := congrArg List.length hr
          rw [List.length_drop, HS.out, List.length_append] at this
          omega
        have HN : Hid (quoAll (acc ++ [d]) = s.data.toList.take (k + (quo d).length)) := by
          show _ = _
          rw [quoAll_snoc, HQ.out, List.take_add, hr, List.take_left]
        obtain ⟨q, hq⟩ : ∃ q, q = (quo d).length := ⟨_, rfl⟩
        rw [← hq] at hq1 hq3 hne hkd HN ⊢
        clear hr hq
        go_wp2_with fail
        refine (writeByte_any w.heap.size w.heap.size _ _ _ hI1 (by rw [Lib.byteCells_length]; omega) (by show w.heap.size ≤ wr.heap.size; omega)).mono ?_
        rintro e w2 ⟨rfl, hI2, hB2, _⟩
        go_wp2_with fail
        go_roundw
        case rel => exact ⟨k + q, acc ++ [d], hkd, by go_num, HN.out, by rw [Lib.byteCells_append]; exact .inr hI2, hB1.trans hB2⟩
        case measure => simp [intOf]; omega
    · obtain rfl : k = s.size := by omega
      have hall : s.data.toList.take s.size = s.data.toList := List.take_of_length_le (by rw [Array.length_toList]; exact Nat.le_refl _)
      have HA : Hid (quoAll acc = s.data.toList) := by show _ = _; rw [HQ.out, hall]
      clear hall
      go_wp2_with fail
      refine (builderString_any w.heap.size w.heap.size _ wr hI (by omega)).mono ?_
      rintro e w1 ⟨rfl, _, hB1, _⟩
      go_wp2_with fail
      go_ret2
      exact ⟨unq_one (quote_all HA.out H0.out), hB.trans hB1⟩

end Go.Proofs.YtchnbnmajagpjaaGreatDoor

namespace Go.Proofs.YtchnbnmajagpjaaGreatDoor
open Go.RowKit Go.Shelf

theorem hex_extract (i : Nat) (h : i < 16) : (ByteArray.mk #[48, 49, 50, 51, 52, 53, 54, 55, 56, 57, 65, 66, 67, 68, 69, 70]).extract i (i + 1) = txt [hexOf i] := by
  rw [extract_txt]
  match i, h with
  | 0, _ => rfl
  | 1, _ => rfl
  | 2, _ => rfl
  | 3, _ => rfl
  | 4, _ => rfl
  | 5, _ => rfl
  | 6, _ => rfl
  | 7, _ => rfl
  | 8, _ => rfl
  | 9, _ => rfl
  | 10, _ => rfl
  | 11, _ => rfl
  | 12, _ => rfl
  | 13, _ => rfl
  | 14, _ => rfl
  | 15, _ => rfl
  | _ + 16, h => exact absurd h (by omega)
theorem hex_at (i : Nat) (h : i < 16) (h' : i < (ByteArray.mk #[48, 49, 50, 51, 52, 53, 54, 55, 56, 57, 65, 66, 67, 68, 69, 70]).size) : (ByteArray.mk #[48, 49, 50, 51, 52, 53, 54, 55, 56, 57, 65, 66, 67, 68, 69, 70])[i]'h' = hexOf i := hex_get i h h'
theorem value_found {c : UInt8} {k : Nat} (hk : k < 16) (h : hexOf k = c) : Lib.indexByte [48, 49, 50, 51, 52, 53, 54, 55, 56, 57, 65, 66, 67, 68, 69, 70] c = k := by
  rcases hex_case c with ⟨_, h2⟩ | ⟨i, hi, h1, h2⟩
  · exact absurd h (h2 k hk)
  · rw [h1, hexOf_inj i k hi hk (h2.trans h.symm)]
theorem value_none {c : UInt8} (h : ∀ j, j < 16 → hexOf j ≠ c) : Lib.indexByte [48, 49, 50, 51, 52, 53, 54, 55, 56, 57, 65, 66, 67, 68, 69, 70] c = -1 := by
  rcases hex_case c with ⟨h1, _⟩ | ⟨i, hi, _, h2⟩
  · exact h1
  · exact absurd h2 (h i hi)
set_option maxRecDepth 100000 in
set_option maxHeartbeats 1000000 in
theorem value_any (c : UInt8) (w : World) : Calls Tryz.prog 139 #[.int .u8 (c.toNat : Int)] w fun e w' => e = .returned (.int .i64 (Lib.indexByte [48, 49, 50, 51, 52, 53, 54, 55, 56, 57, 65, 66, 67, 68, 69, 70] c)) ∧ w = w' := by
  go_enter Tryz.func139, Tryz.ntmps139
  go_wp2
  go_loop [3] (fun i => ∃ k : Nat, k ≤ 16 ∧ i = .int .i64 k ∧ ∀ j, j < k → hexOf j ≠ c) (fun i => 16 - (intOf i).toNat)
  case atStart => exact ⟨0, Nat.zero_le _, rfl, by omega⟩
  case round =>
    obtain ⟨k, hk, rfl, hno⟩ := hrel
    have HN := Lib.hid hno
    clear hno
    by_cases hlt : k < 16
    · have hb : (k : Int) < 16 := by omega
      have hg := hex_at k hlt (by exact hlt)
      by_cases he : hexOf k = c
      · have HV := Lib.hid (value_found hlt he)
        have e1 : (((ByteArray.mk #[48, 49, 50, 51, 52, 53, 54, 55, 56, 57, 65, 66, 67, 68, 69, 70])[k]'(by exact hlt)).toNat : Int) == c.toNat := by rw [hg, he]; simp
        clear hg he
        go_wp2
        go_ret
        exact ⟨by rw [HV.out]; rfl, rfl⟩
      · have e1 : ((((ByteArray.mk #[48, 49, 50, 51, 52, 53, 54, 55, 56, 57, 65, 66, 67, 68, 69, 70])[k]'(by exact hlt)).toNat : Int) == c.toNat) = false := by
          rw [hg, beq_eq_false_iff_ne]
          intro h
          exact he (UInt8.toNat_inj.1 (by omega))
        have HN2 : Hid (∀ j, j < k + 1 → hexOf j ≠ c) := fun j hj => by
          rcases Nat.lt_or_ge j k with h | h
          · exact HN.out j h
          · rw [show j = k by omega]; exact he
        clear hg he
        go_wp2
        go_round
        case rel => exact ⟨k + 1, by omega, by go_num, HN2.out⟩
        case measure => simp [intOf]; omega
    · have hb : ¬ (k : Int) < 16 := by omega
      have HV := Lib.hid (value_none (c := c) (fun j hj => HN.out j (by omega)))
      go_wp2
      go_ret
      exact ⟨by rw [HV.out]; rfl, rfl⟩
set_option maxRecDepth 100000 in
set_option maxHeartbeats 2000000 in
theorem refQuote_any (s : ByteArray) (hs : s.size ≤ 1000000) (w : World) : Calls Tryz.prog 78 #[.string s] w fun e w' => e = .returned (.string (txt (quoteOf s.data.toList))) ∧ ∃ m, w' = w.drewN m := by
  go_enter Tryz.func78, Tryz.ntmps78
  go_wp2
  go_loopw [3, 4] (fun o i wr => ∃ k m : Nat, k ≤ s.size ∧ i = .int .i64 k ∧ o = .string (txt (quoAll (s.data.toList.take k))) ∧ wr = w.drewN m) (fun _ i _ => s.size - (intOf i).toNat)
  case atStart => exact ⟨0, 0, Nat.zero_le _, rfl, rfl, rfl⟩
  case round =>
    obtain ⟨k, m, hk, rfl, rfl, rfl⟩ := hrel
    have hql : (quoAll (s.data.toList.take k)).length ≤ 3 * k := by
      have h1 := quoAll_len (s.data.toList.take k)
      have h2 : (s.data.toList.take k).length ≤ k := List.length_take_le _ _
      omega
    by_cases hlt : k < s.size
    · have hlt' : k < s.data.toList.length := by rw [Array.length_toList]; exact hlt
      have hgk : s.data.toList[k] = s[k] := by rw [Array.getElem_toList]; rfl
      have hts : quoAll (s.data.toList.take (k + 1)) = quoAll (s.data.toList.take k) ++ quo s[k] := by
        rw [List.take_succ_eq_append_getElem hlt', quoAll_snoc, hgk]
      obtain ⟨o, ho⟩ : ∃ o, o = quoAll (s.data.toList.take k) := ⟨_, rfl⟩
      rw [← ho] at hts hql ⊢
      have HT := Lib.hid hts
      clear hts hgk ho
      cases hp : plainB s[k] with
      | true =>
        have HP := Lib.hid hp; clear hp
        have hcat : ¬ 9223372036854775807 < o.length + (min (k + 1) s.size - k) := by omega
        go_wp2_with (go_at_call 77; refine (refPlain_t _ _ HP.out).mono ?_; rintro e w' ⟨rfl, rfl⟩)
        go_roundw
        case rel =>
          refine ⟨k + 1, m, hlt, by go_num, ?_, rfl⟩
          rw [HT.out, quo, if_pos HP.out, extract_one s k hlt, txt_append]
        case measure => simp [intOf]; omega
      | false =>
        have HP := Lib.hid hp; clear hp
        have hd1 : (s[k].toNat : Int) / 16 < 16 := by have := s[k].toNat_lt; omega
        have hd2 : s[k].toNat / 16 < 16 := by omega
        have hm2 : s[k].toNat % 16 < 16 := Nat.mod_lt _ (by omega)
        go_wp2_with (go_at_call 77; refine (refPlain_f _ _ HP.out).mono ?_; rintro e w' ⟨rfl, rfl⟩)
        have hcat1 : ¬ 9223372036854775807 < o.length + 1 := by omega
        have hcat2 : ¬ 9223372036854775807 < o.length + 1 + 1 := by omega
        have hcat3 : ¬ 9223372036854775807 < o.length + 1 + 1 + 1 := by omega
        go_quiet (fail)
        go_wp2
        go_roundw
        case rel =>
          refine ⟨k + 1, m + nq, hlt, by go_num, ?_, rfl⟩
          rw [HT.out, quo, if_neg (by rw [HP.out]; simp), hex_extract _ hd2, hex_extract _ hm2, show (ByteArray.mk #[37]) = txt [37] from rfl, txt_append, txt_append, txt_append]
          simp
        case measure => simp [intOf]; omega
    · obtain rfl : k = s.size := by omega
      have hall : s.data.toList.take s.size = s.data.toList := List.take_of_length_le (by rw [Array.length_toList]; exact Nat.le_refl _)
      rw [hall]
      clear hall hql
      by_cases h0 : s.toList = []
      · have HQ : Hid (quoteOf s.data.toList = [37]) := by show _ = _; rw [← Lib.toList_data, h0]; rfl
        go_wp2
        go_ret
        exact ⟨by rw [HQ.out]; rfl, m, rfl⟩
      · have e0 : s.toList.isEmpty = false := by simpa using h0
        have HQ : Hid (quoteOf s.data.toList = quoAll s.data.toList) := by show _ = _; unfold quoteOf; rw [if_neg (by rw [← Lib.toList_data]; exact h0)]
        clear h0
        go_wp2
        go_ret
        exact ⟨by rw [HQ.out]; rfl, m, rfl⟩

end Go.Proofs.YtchnbnmajagpjaaGreatDoor

namespace Go.Proofs.YtchnbnmajagpjaaGreatDoor
open Go.RowKit Go.Shelf

theorem infoByte : (Tryz.prog.info? 5).map (fun i => (i.zero, i.size, i.bytes)) = some (some (.int .u8 0), 1, 1) := by kernel_rfl
/-- Behind k bytes of l, acc is read: whatever text l is quoted of begins with acc, and the rest of l is quoted of its rest. -/
def RawAt (l : List UInt8) (k : Nat) (acc : List UInt8) : Prop := ∀ t, quoAll t = l → ∃ t', t = acc ++ t' ∧ quoAll t' = l.drop k
theorem raw_start (l : List UInt8) : RawAt l 0 [] := fun t h => ⟨t, rfl, by simpa using h⟩
theorem raw_plain {l : List UInt8} {k : Nat} {acc : List UInt8} {c : UInt8} {r : List UInt8} (h : RawAt l k acc) (hr : l.drop k = c :: r) (hp : plainB c = true) : RawAt l (k + 1) (acc ++ [c]) := by
  intro t ht
  obtain ⟨t', h1, h2⟩ := h t ht
  rw [hr] at h2
  have hd : l.drop (k + 1) = r := by rw [← List.drop_drop, hr]; rfl
  cases t' with
  | nil => simp [quoAll] at h2
  | cons d t2 =>
    rw [quoAll_cons] at h2
    have e : quo c ++ r = quo d ++ quoAll t2 := by rw [h2, quo, if_pos hp]; rfl
    obtain ⟨rfl, h3⟩ := quo_cancel e
    exact ⟨t2, by rw [h1]; simp, by rw [hd, h3]⟩
theorem raw_hex {l : List UInt8} {k i j : Nat} {acc : List UInt8} {c : UInt8} {r : List UInt8} (h : RawAt l k acc) (hr : l.drop k = 37 :: hexOf i :: hexOf j :: r) (hi : i < 16) (hj : j < 16) (hc : c.toNat = 16 * i + j) : RawAt l (k + 3) (acc ++ [c]) := by
  intro t ht
  obtain ⟨t', h1, h2⟩ := h t ht
  rw [hr] at h2
  have hd : l.drop (k + 3) = r := by rw [← List.drop_drop, hr]; rfl
  cases t' with
  | nil => simp [quoAll] at h2
  | cons d t2 =>
    rw [quoAll_cons] at h2
    obtain ⟨_, h3⟩ := cases37 h2.symm
    simp only [List.cons.injEq] at h3
    have hdl := d.toNat_lt
    have e1 := hexOf_inj _ _ hi (by omega) h3.1
    have e2 := hexOf_inj _ _ hj (Nat.mod_lt _ (by omega)) h3.2.1
    have : c = d := UInt8.toNat_inj.1 (by omega)
    subst this
    exact ⟨t2, by rw [h1]; simp, by rw [hd, h3.2.2]⟩
theorem raw_stuck {l : List UInt8} {k : Nat} {acc : List UInt8} (h : RawAt l k acc) (h37 : l ≠ [37]) (h0 : l.drop k ≠ []) (hn : ∀ d r, l.drop k ≠ quo d ++ r) : ∀ t, quoteOf t ≠ l := by
  intro t ht
  unfold quoteOf at ht
  split at ht
  · exact h37 ht.symm
  · obtain ⟨t', _, h2⟩ := h t ht
    cases t' with
    | nil => exact h0 h2.symm
    | cons c r => rw [quoAll_cons] at h2; exact hn c _ h2.symm
theorem raw_end {l : List UInt8} {k : Nat} {acc : List UInt8} (h : RawAt l k acc) (hk : l.length ≤ k) (h37 : l ≠ [37]) : ∀ t, quoteOf t = l → t = acc ∧ acc ≠ [] := by
  intro t ht
  have ht' := ht
  unfold quoteOf at ht
  split at ht
  · exact absurd ht.symm h37
  · rename_i h0
    obtain ⟨t', h1, h2⟩ := h t ht
    rw [List.drop_eq_nil_of_le hk] at h2
    have : t' = [] := quoAll_inj t' [] (by rw [h2]; rfl)
    subst this
    rw [List.append_nil] at h1
    exact ⟨h1, h1 ▸ h0⟩
theorem row_back {W : World} {base g k cap : Nat} {l : List UInt8} (h : W.ownsRow base 5 1 (.slice (some ⟨g, 0, none⟩) k cap) k (Lib.byteCells l)) (hk : k = l.length) :
    (convert 126 9 (.slice (some ⟨g, 0, none⟩) k cap)).run Tryz.prog W = .ok (.string (txt l)) W := by
  subst hk
  refine run_convert_bytes_back W 126 9 5 ⟨g, 0, none⟩ cap l Tryz.underlying126 Tryz.underlying5 Tryz.underlying9 (fun j hj => ?_)
  rcases h.2 with ⟨hv, _⟩ | ⟨g', cap', cur, hv, _, hg, _, _, _, ht⟩
  · cases hv
  · cases hv
    have e1 : (Lib.byteCells l)[j]? = some (.int .u8 (l[j].toNat : Int)) := by simp [Lib.byteCells, hj]
    rw [← ht, List.getElem?_take_of_lt (by omega)] at e1
    have e2 : cur[j]? = some (.int .u8 (l[j].toNat : Int)) := by rw [← Array.getElem?_toList]; exact e1
    have e3 : (⟨g, 0, none⟩ : Addr).add j = ⟨g, j, none⟩ := by unfold Addr.add; split <;> simp_all
    rw [e3]
    simp [World.cell?, hg, e2]
set_option maxRecDepth 100000 in
set_option maxHeartbeats 2000000 in
theorem refUnquote_any (s : ByteArray) (hs : s.size ≤ 100000) (w : World) : Calls Tryz.prog 119 #[.string s] w (UnqPost s w) := by
  by_cases h37 : s.toList = [37]
  · have e1 : (s.toList == [37]) = true := by simp [h37]
    have HN : Hid (UnqPost s w (.returned (.tuple #[.string ⟨#[]⟩, .int .i64 0])) w) := ⟨unq_one (acc := []) (by rw [← Lib.toList_data, h37]; rfl), Below.refl _ _⟩
    clear h37
    go_enter Tryz.func119, Tryz.ntmps119
    go_wp2
    go_ret2
    exact HN.out
  have e1 : (s.toList == [37]) = false := by simpa using h37
  rw [Lib.toList_data] at h37
  have H37 := Lib.hid h37
  have HS := Lib.hid (size_list s)
  obtain ⟨i0, hi, hz0, hz1, hz2⟩ := info_parts infoByte
  clear h37
  go_enter Tryz.func119, Tryz.ntmps119
  go_wp2
  go_loopw [4, 5] (fun v i wr => ∃ (k : Nat) (acc : List UInt8), k ≤ s.size ∧ acc.length ≤ k ∧ i = .int .i64 k ∧ RawAt s.data.toList k acc ∧ wr.ownsRow w.heap.size 5 1 v acc.length (Lib.byteCells acc) ∧ Below w.heap.size w wr) (fun _ i _ => s.size - (intOf i).toNat)
  case atStart => exact ⟨0, [], Nat.zero_le _, Nat.zero_le _, rfl, raw_start _, World.ownsRow_nil _ _ _ _, Below.refl _ _⟩
  case round =>
    obtain ⟨k, acc, hk, hak, rfl, hat, hown, hB⟩ := hrel
    have hsz := hB.size
    have HA := Lib.hid hat
    clear hat
    have hml : acc.length + 1 ≤ maxLen := by unfold maxLen; omega
    by_cases hlt : k < s.size
    · have hlt' : k < s.data.toList.length := by rw [Array.length_toList]; exact hlt
      have hcons : s.data.toList.drop k = s[k] :: s.data.toList.drop (k + 1) := by
        rw [List.drop_eq_getElem_cons hlt', Array.getElem_toList]; rfl
      cases hp : plainB s[k] with
      | true =>
        have HN := Lib.hid (raw_plain HA.out hcons hp)
        have HP := Lib.hid hp
        clear hp hcons
        go_wp2_with fail
        refine (refPlain_t _ _ HP.out).mono ?_
        rintro e w' ⟨rfl, rfl⟩
        go_wp2_with (at_builtin; refine wpList_append_own _ rfl _ _ 126 rfl w.heap.size 5 i0 (.int .u8 0) 1 1 Tryz.underlying126 hi hz0 hz1 hz2 rfl (by decide) _ _ _ rfl (hown.alloc _) ⟨wr.heap.size, 0, none⟩ 1 1 [.int .u8 (s[k].toNat : Int)] rfl rfl (cell_one_new _ _ _) (by simp [Value.oneCell']) hml (by omega) (by simp; omega) ?_; intro v' w1 hown' hgrow _)
        have hB1 := (hB.alloc hB.size _).grown hgrow (by simp; omega) (fun j ej => (hown.lt j ej).1)
        go_roundw
        case rel =>
          refine ⟨k + 1, acc ++ [s[k]], hlt, by simp; omega, by go_num, HN.out, ?_, hB1⟩
          rw [List.length_append, Lib.byteCells_append]
          exact hown'
        case measure => simp [intOf]; omega
      | false =>
        have HP := Lib.hid hp
        have hne : s.data.toList.drop k ≠ [] := by rw [hcons]; simp
        by_cases h37 : s[k] = 37
        · have e37 : ((s[k].toNat : Int) != 37) = false := by rw [h37]; rfl
          by_cases hroom : s.size ≤ k + 2
          · have d3 : decide ((s.size : Int) ≤ (k : Int) + 2) = true := by simp; omega
            have HN : Hid (UnqPost s w (.returned (.tuple #[.string ⟨#[]⟩, .int .i64 2])) wr) := by
              refine ⟨unq_no (raw_stuck HA.out H37.out hne ?_), hB⟩
              rw [hcons, h37]
              exact none_short (by rw [List.length_drop, HS.out]; omega)
            clear hp hcons hne h37
            go_wp2_with fail
            refine (refPlain_f _ _ HP.out).mono ?_
            rintro e w' ⟨rfl, rfl⟩
            go_wp2_with fail
            go_ret2
            exact HN.out
          · have d3 : decide ((s.size : Int) ≤ (k : Int) + 2) = false := by simp; omega
            have b1 : k + 1 < s.size := by omega
            have b2 : k + 2 < s.size := by omega
            have b1' : (k : Int) + 1 < s.size := by omega
            have b2' : (k : Int) + 2 < s.size := by omega
            have hcons3 : s.data.toList.drop k = 37 :: s[k + 1] :: s[k + 2] :: s.data.toList.drop (k + 3) := by
              have l1 : k + 1 < s.data.toList.length := by rw [HS.out]; exact b1
              have l2 : k + 2 < s.data.toList.length := by rw [HS.out]; exact b2
              rw [hcons, h37, List.drop_eq_getElem_cons l1, List.drop_eq_getElem_cons l2, Array.getElem_toList, Array.getElem_toList]
              rfl
            have HC3 := Lib.hid hcons3
            have HNE := Lib.hid hne
            clear hp hcons hcons3 hne h37
            rcases hex_case s[k + 1] with ⟨x1, n1⟩ | ⟨i, hi1, x1, n1⟩
            · have HN : Hid (UnqPost s w (.returned (.tuple #[.string ⟨#[]⟩, .int .i64 2])) wr) := by
                refine ⟨unq_no (raw_stuck HA.out H37.out HNE.out ?_), hB⟩
                rw [HC3.out]
                exact none_hex1 n1
              have hv1 := value_any s[k + 1] wr
              have hv2 := value_any s[k + 2] wr
              rw [x1] at hv1
              generalize Lib.indexByte [48, 49, 50, 51, 52, 53, 54, 55, 56, 57, 65, 66, 67, 68, 69, 70] s[k + 2] = g at hv2
              have HV1 := Lib.hid hv1
              have HV2 := Lib.hid hv2
              clear n1 x1 hv1 hv2
              go_wp2_with fail
              refine (refPlain_f _ _ HP.out).mono ?_
              rintro e w' ⟨rfl, rfl⟩
              go_wp2_with fail
              refine HV1.out.mono ?_
              rintro e w' ⟨rfl, rfl⟩
              go_wp2_with fail
              refine HV2.out.mono ?_
              rintro e w' ⟨rfl, rfl⟩
              go_wp2_with fail
              go_ret2
              exact HN.out
            · rcases hex_case s[k + 2] with ⟨x2, n2⟩ | ⟨j, hj, x2, n2⟩
              · have HN : Hid (UnqPost s w (.returned (.tuple #[.string ⟨#[]⟩, .int .i64 2])) wr) := by
                  refine ⟨unq_no (raw_stuck HA.out H37.out HNE.out ?_), hB⟩
                  rw [HC3.out]
                  exact none_hex2 n2
                have hv1 := value_any s[k + 1] wr
                have hv2 := value_any s[k + 2] wr
                rw [x1] at hv1
                rw [x2] at hv2
                have HV1 := Lib.hid hv1
                have HV2 := Lib.hid hv2
                have di : decide ((i : Int) < 0) = false := by simp
                clear n1 x1 n2 x2 hv1 hv2
                go_wp2_with fail
                refine (refPlain_f _ _ HP.out).mono ?_
                rintro e w' ⟨rfl, rfl⟩
                go_wp2_with fail
                refine HV1.out.mono ?_
                rintro e w' ⟨rfl, rfl⟩
                go_wp2_with fail
                refine HV2.out.mono ?_
                rintro e w' ⟨rfl, rfl⟩
                go_wp2_with fail
                go_ret2
                exact HN.out
              · obtain ⟨c, hc⟩ : ∃ c : UInt8, c.toNat = 16 * i + j := ⟨UInt8.ofNat (16 * i + j), by simp; omega⟩
                have HN := Lib.hid (raw_hex (c := c) HA.out (by rw [HC3.out, n1, n2]) hi1 hj hc)
                have hv1 := value_any s[k + 1] wr
                have hv2 := value_any s[k + 2] wr
                rw [x1] at hv1
                rw [x2] at hv2
                have HV1 := Lib.hid hv1
                have HV2 := Lib.hid hv2
                have di : decide ((i : Int) < 0) = false := by simp
                have dj : decide ((j : Int) < 0) = false := by simp
                have HCC := Lib.hid hc
                clear n1 x1 n2 x2 hv1 hv2 hc
                go_wp2_with fail
                refine (refPlain_f _ _ HP.out).mono ?_
                rintro e w' ⟨rfl, rfl⟩
                go_wp2_with fail
                refine HV1.out.mono ?_
                rintro e w' ⟨rfl, rfl⟩
                go_wp2_with fail
                refine HV2.out.mono ?_
                rintro e w' ⟨rfl, rfl⟩
                go_wp2_with (at_builtin; refine wpList_append_own _ rfl _ _ 126 rfl w.heap.size 5 i0 (.int .u8 0) 1 1 Tryz.underlying126 hi hz0 hz1 hz2 rfl (by decide) _ _ _ rfl (hown.alloc _) ⟨wr.heap.size, 0, none⟩ 1 1 [_] rfl rfl (cell_one_new _ _ _) (by simp [Value.oneCell']) hml (by omega) (by simp; omega) ?_; intro v' w1 hown' hgrow _)
                have hB1 := (hB.alloc hB.size _).grown hgrow (by simp; omega) (fun j ej => (hown.lt j ej).1)
                go_roundw
                case rel =>
                  refine ⟨k + 3, acc ++ [c], by omega, by simp; omega, by go_num, HN.out, ?_, hB1⟩
                  rw [List.length_append, Lib.byteCells_append]
                  have ec : (16 * (i : Int) + (j : Int)) = (c.toNat : Int) := by rw [HCC.out]; omega
                  rw [ec] at hown'
                  exact hown'
                case measure => simp [intOf]; omega
        · have e37 : ((s[k].toNat : Int) != 37) = true := by
            have : s[k].toNat ≠ 37 := fun h => h37 (UInt8.toNat_inj.1 (by rw [h]; rfl))
            simp; omega
          have HN : Hid (UnqPost s w (.returned (.tuple #[.string ⟨#[]⟩, .int .i64 2])) wr) := by
            refine ⟨unq_no (raw_stuck HA.out H37.out hne ?_), hB⟩
            rw [hcons]
            exact none_head hp h37
          clear hp hcons hne h37
          go_wp2_with fail
          refine (refPlain_f _ _ HP.out).mono ?_
          rintro e w' ⟨rfl, rfl⟩
          go_wp2_with fail
          go_ret2
          exact HN.out
    · have hE := raw_end HA.out (by rw [HS.out]; omega) H37.out
      cases acc with
      | nil =>
        have HN : Hid (UnqPost s w (.returned (.tuple #[.string ⟨#[]⟩, .int .i64 2])) wr) := ⟨unq_no (fun t ht => (hE t ht).2 rfl), hB⟩
        clear hE
        rcases hown.2 with ⟨rfl, _⟩ | ⟨g, cap, cur, rfl, _⟩
        all_goals
          clear hown
          go_wp2_with fail
          go_ret2
          exact HN.out
      | cons a0 r0 =>
        obtain ⟨acc, hacc⟩ : ∃ acc, acc = a0 :: r0 := ⟨_, rfl⟩
        have hpos : 1 ≤ acc.length := by rw [hacc]; simp
        rw [← hacc] at hE hown hak
        clear hacc HA
        obtain ⟨n, hn⟩ : ∃ n, acc.length = n + 1 := ⟨acc.length - 1, by omega⟩
        rw [hn] at hown
        obtain ⟨g, cap, hv⟩ := ownsRow_succ hown
        subst hv
        have hconv := row_back hown hn.symm
        have hconv2 := fun m : Nat => row_back (W := wr.drewN m) hown hn.symm
        have hq := refQuote_any (txt acc) (by rw [txt_size]; omega) wr
        rw [txt_data] at hq
        have HQ := Lib.hid hq
        have hnz : (((n + 1 : Nat) : Int) == 0) = false := by rw [beq_eq_false_iff_ne]; omega
        have hnz2 : ((n : Int) + 1 == 0) = false := by rw [beq_eq_false_iff_ne]; omega
        by_cases he : quoteOf acc = s.data.toList
        · have HN : Hid (∀ m, UnqPost s w (.returned (.tuple #[.string (txt acc), .int .i64 0])) (wr.drewN m)) := fun m => ⟨unq_one he, below_drewN hB m⟩
          have ht : (!(txt (quoteOf acc)).toList == s.toList) = false := by rw [txt_toL, he, Lib.toList_data]; simp
          generalize quoteOf acc = qa at HQ ht
          clear hE he hq hown
          go_wp2_with fail
          refine HQ.out.mono ?_
          rintro e w2 ⟨rfl, m, rfl⟩
          go_wp2_with fail
          go_ret2
          exact HN.out m
        · have HN : Hid (∀ m, UnqPost s w (.returned (.tuple #[.string ⟨#[]⟩, .int .i64 2])) (wr.drewN m)) := fun m => ⟨unq_no (fun t ht => he (by rw [← (hE t ht).1]; exact ht)), below_drewN hB m⟩
          have ht : (!(txt (quoteOf acc)).toList == s.toList) = true := by rw [txt_toL, Lib.toList_data]; simp [he]
          generalize quoteOf acc = qa at HQ ht
          clear hE he hq hown
          go_wp2_with fail
          refine HQ.out.mono ?_
          rintro e w2 ⟨rfl, m, rfl⟩
          go_wp2_with fail
          go_ret2
          exact HN.out m

end Go.Proofs.YtchnbnmajagpjaaGreatDoor
