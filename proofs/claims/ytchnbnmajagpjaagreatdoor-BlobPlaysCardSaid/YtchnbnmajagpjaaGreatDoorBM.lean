/-
  What strings.Cut at a line feed, strings.Trim of digits, CutSuffix of a blank, and two functions of line's own answer.
  What strings.SplitSeq tells, at a blank: the pieces of a text between its blanks. For every text.
  What unquoteAll answers: the texts of a body, or nothing and the error. For every text of at most 13000 bytes.
  What Take answers, for every text.
  What lists tells: each list with what is behind its line, as far as Take does not err. For every text.
  From a call that answers true and turns nothing that lay to the row's last word. Plain carrying, no condition of its own.
  From a call that answers true and turns nothing that lay to the row's last word. Plain carrying, no condition of its own.
  From a call that answers true and turns nothing that lay to the row's last word, where an argument is a list of texts. Plain carrying, no condition of its own.
  What Scan answers, for every text of at most 1000000 bytes.
  What Scan answers, as one answer.
  What Put answers, for every list of texts of at most 1000000 bytes each.
  What Put answers of one text.
  What Put answers, as one answer.
  Lists that are put, one behind the other: how they lie, and what is scanned of their lines.
  What Take answers, as one answer.
  A list of lists of texts that came in reads as such, and reads so behind the call. Plain carrying, no condition of its own.
-/
import Derived.Shelf.Strings.SlTrimAscii
import Derived.Lib.IndexBytes
import Derived.Lib.IndexLaws
import Derived.Deep.QuietTactic
import Derived.BigQuiet
import Derived.RangeFuncNested
import Derived.RangeFuncBound
import Derived.RangeFuncCalls
import Derived.RangeFuncLeaves
import Derived.Shelf.Abstract
import Derived.Shelf.RegionOpen
import Derived.WalkKit
import Derived.OwnWalkIn
import Derived.TacticsInMore
import Derived.LoopNIn
import Derived.LoopIn
import Derived.WalkSpells
import Derived.Outline
import Derived.Lib.Hide
import Derived.Maps.AppendAt
import Derived.Maps.OwnIn
import Derived.ProofKit
import Derived.Below
import Derived.ChangeSame
import Derived.Carry
import Derived.OpenShut
import Derived.SliceStrings
import Derived.SizedLaws
import Derived.RangeFuncRecord
import Derived.ChangeArms
import Derived.Deep.Slices
import Derived.Test.YtchnbnmajagpjaaGreatDoorBL
import Derived.Test.YtchnbnmajagpjaaGreatDoorBA
import Derived.Test.YtchnbnmajagpjaaGreatDoorRows
namespace Go.Proofs.YtchnbnmajagpjaaGreatDoor
open Go.RowKit Go.Shelf
attribute [local go_sem] Oper.semAt_some

def lays160_ren : Go.Shelf.Ren := ⟨fun | 160 => 149 | 232 => 156 | 231 => 155 | 227 => 157 | 234 => 159 | 233 => 158 | 236 => 161 | 235 => 160 | 228 => 169 | 271 => 172 | 151 => 171 | 197 => 170 | 120 => 181 | 152 => 180 | 260 => 179 | 137 => 176 | 119 => 182 | 224 => 167 | 225 => 166 | 217 => 165 | 266 => 177 | n => n, fun | 9 => 9 | 4 => 4 | 3 => 3 | 5 => 5 | 117 => 203 | 116 => 202 | 0 => 0 | 124 => 206 | 21 => 21 | 105 => 212 | 46 => 150 | 119 => 218 | 139 => 221 | 138 => 220 | n => n, fun | 3 => 1 | 4 => 2 | n => n⟩
theorem lays160 : Go.Proofs.Lays.n160 Tryz.prog lays160_ren := {
  mixed := by kernel_rfl
  f119 := Tryz.func182.trans (congrArg some (by kernel_rfl))
  f120 := Tryz.func181.trans (congrArg some (by kernel_rfl))
  f137 := Tryz.func176.trans (congrArg some (by kernel_rfl))
  f151 := Tryz.func171.trans (congrArg some (by kernel_rfl))
  f152 := Tryz.func180.trans (congrArg some (by kernel_rfl))
  f160 := Tryz.func149.trans (congrArg some (by kernel_rfl))
  f197 := Tryz.func170.trans (congrArg some (by kernel_rfl))
  f217 := Tryz.func165.trans (congrArg some (by kernel_rfl))
  f224 := Tryz.func167.trans (congrArg some (by kernel_rfl))
  f225 := Tryz.func166.trans (congrArg some (by kernel_rfl))
  f227 := Tryz.func157.trans (congrArg some (by kernel_rfl))
  f228 := Tryz.func169.trans (congrArg some (by kernel_rfl))
  f231 := Tryz.func155.trans (congrArg some (by kernel_rfl))
  f232 := Tryz.func156.trans (congrArg some (by kernel_rfl))
  f233 := Tryz.func158.trans (congrArg some (by kernel_rfl))
  f234 := Tryz.func159.trans (congrArg some (by kernel_rfl))
  f235 := Tryz.func160.trans (congrArg some (by kernel_rfl))
  f236 := Tryz.func161.trans (congrArg some (by kernel_rfl))
  f260 := Tryz.func179.trans (congrArg some (by kernel_rfl))
  f266 := Tryz.func177.trans (congrArg some (by kernel_rfl))
  f271 := Tryz.func172.trans (congrArg some (by kernel_rfl))
  t0 := Tryz.underlying0
  a0 := Tryz.isAgg0
  z0 := Tryz.sizeOf0
  v0 := Tryz.zeroValue0
  t3 := Tryz.underlying3
  a3 := Tryz.isAgg3
  z3 := Tryz.sizeOf3
  v3 := Tryz.zeroValue3
  t4 := Tryz.underlying4
  a4 := Tryz.isAgg4
  z4 := Tryz.sizeOf4
  v4 := Tryz.zeroValue4
  t5 := Tryz.underlying5
  a5 := Tryz.isAgg5
  z5 := Tryz.sizeOf5
  v5 := Tryz.zeroValue5
  t9 := Tryz.underlying9
  a9 := Tryz.isAgg9
  z9 := Tryz.sizeOf9
  v9 := Tryz.zeroValue9
  t21 := Tryz.underlying21
  a21 := Tryz.isAgg21
  z21 := Tryz.sizeOf21
  v21 := Tryz.zeroValue21
  t46 := Tryz.underlying150
  a46 := Tryz.isAgg150
  z46 := Tryz.sizeOf150
  v46 := Tryz.zeroValue150
  t105 := Tryz.underlying212
  a105 := Tryz.isAgg212
  z105 := Tryz.sizeOf212
  v105 := Tryz.zeroValue212
  t116 := Tryz.underlying202
  a116 := Tryz.isAgg202
  z116 := Tryz.sizeOf202
  t117 := Tryz.underlying203
  a117 := Tryz.isAgg203
  z117 := Tryz.sizeOf203
  v117 := Tryz.zeroValue203
  t119 := Tryz.underlying218
  a119 := Tryz.isAgg218
  z119 := Tryz.sizeOf218
  t124 := Tryz.underlying206
  a124 := Tryz.isAgg206
  z124 := Tryz.sizeOf206
  v124 := Tryz.zeroValue206
  t138 := Tryz.underlying220
  a138 := Tryz.isAgg220
  z138 := Tryz.sizeOf220
  v138 := Tryz.zeroValue220
  t139 := Tryz.underlying221
  a139 := Tryz.isAgg221
  z139 := Tryz.sizeOf221
  v139 := Tryz.zeroValue221
  g3 := by kernel_rfl
  g4 := by kernel_rfl }


def hexDigits : List UInt8 := [48, 49, 50, 51, 52, 53, 54, 55, 56, 57, 97, 98, 99, 100, 101, 102]
theorem contains_hex (c : UInt8) : hexDigits.contains c = hexB c := by
  have main : ∀ n : Fin 256, hexDigits.contains (UInt8.ofNat n.1) = hexB (UInt8.ofNat n.1) := by decide +kernel
  have := main ⟨c.toNat, c.toNat_lt⟩
  simpa using this
theorem drop_all (p : UInt8 → Bool) (l : List UInt8) (h : l.dropWhile p = []) : ∀ c ∈ l, p c = true := by
  induction l with
  | nil => simp
  | cons x r ih =>
    rw [List.dropWhile_cons] at h
    split at h
    · rename_i hx
      intro c hc
      rcases List.mem_cons.1 hc with rfl | hc
      · exact hx
      · exact ih h c hc
    · cases h
theorem all_drop (p : UInt8 → Bool) (l : List UInt8) (h : ∀ c ∈ l, p c = true) : l.dropWhile p = [] := by
  induction l with
  | nil => rfl
  | cons x r ih => rw [List.dropWhile_cons, if_pos (h x (by simp)), ih (fun c hc => h c (by simp [hc]))]
theorem trim_hex (l : List UInt8) : Lib.trimS l hexDigits = [] ↔ l.all hexB = true := by
  have e : (fun c => hexDigits.contains c) = hexB := funext contains_hex
  unfold Lib.trimS Lib.trimLeftS Lib.trimRightS
  rw [e, List.all_eq_true]
  constructor
  · intro h c hc
    have h1 := drop_all _ _ h
    have h2 : c ∈ l.reverse.takeWhile hexB ++ l.reverse.dropWhile hexB := by rw [List.takeWhile_append_dropWhile]; simpa using hc
    rcases List.mem_append.1 h2 with h3 | h3
    · have : ∀ (l : List UInt8), c ∈ l.takeWhile hexB → hexB c = true := by
        intro l
        induction l with
        | nil => intro h; cases h
        | cons x r ih =>
          intro h
          rw [List.takeWhile_cons] at h
          split at h
          · rename_i hx
            rcases List.mem_cons.1 h with rfl | h
            · exact hx
            · exact ih h
          · cases h
      exact this _ h3
    · exact h1 c (by simpa using h3)
  · intro h
    rw [all_drop hexB l.reverse (fun c hc => h c (by simpa using hc))]
    rfl
theorem trim_any (s : ByteArray) (hs : s.size ≤ maxLen) (w : World) : Calls Tryz.prog 149 #[.string s, .string ⟨#[48, 49, 50, 51, 52, 53, 54, 55, 56, 57, 97, 98, 99, 100, 101, 102]⟩] w fun e w' => e = .returned (.string (txt (Lib.trimS s.data.toList hexDigits))) ∧ Below w.heap.size w w' :=
  Any.strings_Trim_laid lays160 (by kernel_rfl) s ⟨#[48, 49, 50, 51, 52, 53, 54, 55, 56, 57, 97, 98, 99, 100, 101, 102]⟩ w (by unfold maxLen at hs; omega) (by decide) (ascii_of_all (by decide))

/-- Where the first line feed stands. -/
theorem index_nl (l : List UInt8) : Lib.indexByte l 10 = if (headOf l).length = l.length then -1 else ((headOf l).length : Int) := by
  induction l with
  | nil => rfl
  | cons c r ih =>
    unfold Lib.indexByte
    by_cases hc : c = 10
    · subst hc
      have e : headOf (10 :: r) = [] := by unfold headOf; rw [List.takeWhile_cons]; rfl
      rw [e]; simp
    · have hn : nlB c = false := by
        simp only [nlB, decide_eq_false_iff_not]
        intro h; exact hc (UInt8.toNat_inj.1 (by rw [h]; rfl))
      have e : headOf (c :: r) = c :: headOf r := by unfold headOf; rw [List.takeWhile_cons, hn]; rfl
      have hb : (c == 10) = false := by simpa using hc
      rw [e, hb, ih]
      simp only [List.length_cons, Bool.false_eq_true, if_false, Nat.add_right_cancel_iff]
      split
      · simp
      · have : (((headOf r).length : Int) == -1) = false := by rw [beq_eq_false_iff_ne]; omega
        rw [this]; simp

theorem index_yes {s : ByteArray} (h : (headOf s.data.toList).length ≠ s.size) (w : World) : Calls Tryz.prog 154 #[.string s, .string ⟨#[10]⟩] w fun e w' => e = .returned (.int .i64 ((headOf s.data.toList).length : Int)) ∧ w' = w := by
  have := stringslite_Index_one s 10 w
  rwa [index_nl, if_neg (by rw [size_list]; exact h)] at this
theorem index_no {s : ByteArray} (h : (headOf s.data.toList).length = s.size) (w : World) : Calls Tryz.prog 154 #[.string s, .string ⟨#[10]⟩] w fun e w' => e = .returned (.int .i64 (-1)) ∧ w' = w := by
  have := stringslite_Index_one s 10 w
  rwa [index_nl, if_pos (by rw [size_list]; exact h)] at this

theorem head_take (l : List UInt8) : l.take (headOf l).length = headOf l := by
  have := List.takeWhile_prefix (fun c => !nlB c) (l := l)
  exact (List.prefix_iff_eq_take.1 this).symm

set_option maxRecDepth 100000 in
set_option maxHeartbeats 1000000 in
theorem cut_yes (s : ByteArray) (hs : s.size ≤ maxLen) (h : (headOf s.data.toList).length ≠ s.size) (w : World) :
    Calls Tryz.prog 136 #[.string s, .string ⟨#[10]⟩] w fun e w' => e = .returned (.tuple #[.string (txt (headOf s.data.toList)), .string (txt (s.data.toList.drop ((headOf s.data.toList).length + 1))), .bool true]) ∧ ∃ n, w' = w.drewN n := by
  unfold maxLen at hs
  have hl := head_le s.data.toList
  rw [size_list] at hl
  have HI := Lib.hid (index_yes h)
  have HA : Hid (s.extract 0 (headOf s.data.toList).length = txt (headOf s.data.toList)) := by
    show _ = _; rw [extract_txt, List.drop_zero, Nat.sub_zero, head_take]
  have HB : Hid (s.extract ((headOf s.data.toList).length + 1) s.size = txt (s.data.toList.drop ((headOf s.data.toList).length + 1))) := by
    show _ = _; rw [extract_txt, take_rest]
  generalize txt (s.data.toList.drop ((headOf s.data.toList).length + 1)) = b at HB ⊢
  generalize txt (headOf s.data.toList) = a at HA ⊢
  generalize hn : (headOf s.data.toList).length = n at hl HI HA HB h
  have h1 : n ≤ s.size := by omega
  have h2 : n + 1 ≤ s.size := by omega
  clear hn hl h
  have HL : Hid (∀ w, Calls Tryz.prog 148 #[.string s, .string ⟨#[10]⟩] w fun e w' => e = .returned (.tuple #[.string a, .string b, .bool true]) ∧ ∃ n, w' = w.drewN n) := by
    intro w
    go_enter Tryz.func148, Tryz.ntmps148
    go_wp2_with (go_at_call 154; refine (HI.out _).mono ?_; rintro e w' ⟨rfl, rfl⟩)
    go_quiet (fail)
    go_wp2
    go_ret3
    exact ⟨by rw [← HA.out, ← HB.out]; rfl, nq, rfl⟩
  clear HI HA HB
  go_enter Tryz.func136, Tryz.ntmps136
  go_wp2_with (go_at_call 148; refine (HL.out _).mono ?_; rintro e w' ⟨rfl, nd, rfl⟩)
  go_ret3
  exact ⟨rfl, nd, rfl⟩
set_option maxRecDepth 100000 in
set_option maxHeartbeats 1000000 in
theorem cut_no (s : ByteArray) (h : (headOf s.data.toList).length = s.size) (w : World) :
    Calls Tryz.prog 136 #[.string s, .string ⟨#[10]⟩] w fun e w' => e = .returned (.tuple #[.string s, .string ⟨#[]⟩, .bool false]) ∧ ∃ n, w' = w.drewN n := by
  have HI := Lib.hid (index_no h)
  clear h
  have HL : Hid (∀ w, Calls Tryz.prog 148 #[.string s, .string ⟨#[10]⟩] w fun e w' => e = .returned (.tuple #[.string s, .string ⟨#[]⟩, .bool false]) ∧ ∃ n, w' = w.drewN n) := by
    intro w
    go_enter Tryz.func148, Tryz.ntmps148
    go_wp2_with (go_at_call 154; refine (HI.out _).mono ?_; rintro e w' ⟨rfl, rfl⟩)
    go_ret3
    exact ⟨rfl, 0, rfl⟩
  clear HI
  go_enter Tryz.func136, Tryz.ntmps136
  go_wp2_with (go_at_call 148; refine (HL.out _).mono ?_; rintro e w' ⟨rfl, nd, rfl⟩)
  go_ret3
  exact ⟨rfl, nd, rfl⟩

theorem cuts_t {s p : ByteArray} (hs : s.size ≤ maxLen) (h : Lib.hasSuffix s.data.toList p.data.toList = true) (w : World) : Calls Tryz.prog 150 #[.string s, .string p] w fun e w' => e = .returned (.tuple #[.string (txt (s.data.toList.take (s.data.toList.length - p.data.toList.length))), .bool true]) ∧ w' = w := by
  have := strings_CutSuffix s p w (by unfold maxLen at hs; omega); unfold Lib.trimSuffix at this; rw [h] at this; exact this
theorem cuts_f {s p : ByteArray} (hs : s.size ≤ maxLen) (h : Lib.hasSuffix s.data.toList p.data.toList = false) (w : World) : Calls Tryz.prog 150 #[.string s, .string p] w fun e w' => e = .returned (.tuple #[.string s, .bool false]) ∧ w' = w := by
  have := strings_CutSuffix s p w (by unfold maxLen at hs; omega); unfold Lib.trimSuffix at this; rw [h] at this; exact this

set_option maxHeartbeats 400000 in
theorem seal_any (s : ByteArray) (hs : s.size ≤ maxLen) (w : World) : Calls Tryz.prog 74 #[.string s] w fun e w' => e = .returned (.string (txt (sealOf s.data.toList))) ∧ Below w.heap.size w w' := by
  have HO := Lib.hid (of_any s hs)
  have HX := Lib.hid (hex_any (addN 1 s.data.toList) (add_lt _ _))
  have HE : Hid (sealOf s.data.toList = hexN (addN 1 s.data.toList)) := rfl
  generalize addN 1 s.data.toList = k at *
  clear hs
  go_enter Tryz.func74, Tryz.ntmps74
  go_wp2_with fail
  refine (HO.out _).mono ?_
  rintro e w1 ⟨rfl, hb1⟩
  go_wp2_with fail
  refine (HX.out _).mono ?_
  rintro e w2 ⟨rfl, hb2⟩
  go_wp2_with fail
  go_ret
  exact ⟨by rw [HE.out]; rfl, below2 hb1 hb2⟩

/-- What cutSum answers: the body and its digits, or nothing and the error. -/
def BadHead (l : List UInt8) : Prop := l.length < 8 ∨ 13000 ≤ l.length ∨ (l.drop (l.length - 8)).all hexB = false
set_option maxRecDepth 100000 in
set_option maxHeartbeats 1000000 in
theorem cutSum_bad (s : ByteArray) (hs : s.size ≤ maxLen) (h : BadHead s.data.toList) (w : World) : Calls Tryz.prog 137 #[.string s] w fun e w' => e = .returned (.tuple #[.string ⟨#[]⟩, .string ⟨#[]⟩, .int .i64 2]) ∧ Below w.heap.size w w' := by
  have hm := hs
  unfold maxLen at hs
  unfold BadHead at h
  rw [size_list] at h
  by_cases h8 : s.size < 8
  · have e1 : decide ((s.size : Int) < 8) = true := by simp; omega
    clear h hm
    go_enter Tryz.func137, Tryz.ntmps137
    go_wp2_with fail
    go_ret3
    exact ⟨rfl, Below.refl _ _⟩
  have e1 : decide ((s.size : Int) < 8) = false := by simp; omega
  by_cases h13 : 13000 ≤ s.size
  · have e2 : decide (13000 ≤ (s.size : Int)) = true := by simp; omega
    clear h hm
    go_enter Tryz.func137, Tryz.ntmps137
    go_wp2_with fail
    go_ret3
    exact ⟨rfl, Below.refl _ _⟩
  have e2 : decide (13000 ≤ (s.size : Int)) = false := by simp; omega
  have hx : (s.data.toList.drop (s.size - 8)).all hexB = false := by
    rcases h with h | h | h
    · omega
    · omega
    · exact h
  have hT := trim_any (s.extract (s.size - 8) s.size) (by rw [ByteArray.size_extract]; unfold maxLen; omega)
  have hne : Lib.trimS (s.extract (s.size - 8) s.size).data.toList hexDigits ≠ [] := by
    intro e
    rw [trim_hex, Lib.extract_to_end, hx] at e; cases e
  have e3 : (txt (Lib.trimS (s.extract (s.size - 8) s.size).data.toList hexDigits)).toList.isEmpty = false := by
    rw [txt_toL]; simpa using hne
  have HT := Lib.hid hT
  generalize txt (Lib.trimS (s.extract (s.size - 8) s.size).data.toList hexDigits) = tr at HT e3
  clear h hx hne hT hm
  obtain ⟨n, hn⟩ : ∃ n, s.size = n + 8 := ⟨s.size - 8, by omega⟩
  rw [show s.size - 8 = n by omega] at HT
  have b3 : (s.size : Int) - 8 = (n : Int) := by omega
  have b4 : n ≤ s.size := by omega
  clear hn
  go_enter Tryz.func137, Tryz.ntmps137
  go_wp2_with fail
  go_quiet (fail)
  go_wp2_with fail
  refine (HT.out _).mono ?_
  rintro e w1 ⟨rfl, hb⟩
  go_wp2_with fail
  go_ret3
  exact ⟨rfl, (below_drewN (Below.refl _ _) nq).trans hb⟩

set_option maxRecDepth 100000 in
set_option maxHeartbeats 1000000 in
theorem cutSum_good (s : ByteArray) (h : ¬ BadHead s.data.toList) (w : World) : Calls Tryz.prog 137 #[.string s] w fun e w' => e = .returned (.tuple #[.string (txt (s.data.toList.take (s.data.toList.length - 8))), .string (txt (s.data.toList.drop (s.data.toList.length - 8))), .int .i64 0]) ∧ Below w.heap.size w w' := by
  unfold BadHead at h
  rw [size_list] at h ⊢
  have h8 : ¬ s.size < 8 := fun x => h (.inl x)
  have h13 : ¬ 13000 ≤ s.size := fun x => h (.inr (.inl x))
  have hx : (s.data.toList.drop (s.size - 8)).all hexB = true := by
    cases hx : (s.data.toList.drop (s.size - 8)).all hexB with
    | true => rfl
    | false => exact absurd (.inr (.inr hx)) h
  have e1 : decide ((s.size : Int) < 8) = false := by simp; omega
  have e2 : decide (13000 ≤ (s.size : Int)) = false := by simp; omega
  have hT := trim_any (s.extract (s.size - 8) s.size) (by rw [ByteArray.size_extract]; unfold maxLen; omega)
  rw [(trim_hex _).2 (by rw [Lib.extract_to_end]; exact hx)] at hT
  have HA : Hid (s.extract 0 (s.size - 8) = txt (s.data.toList.take (s.size - 8))) := by
    show _ = _; rw [extract_txt, List.drop_zero, Nat.sub_zero]
  have HB : Hid (s.extract (s.size - 8) s.size = txt (s.data.toList.drop (s.size - 8))) := by
    show _ = _; rw [extract_txt, take_rest]
  have HT := Lib.hid hT
  have e3 : (txt ([] : List UInt8)).toList.isEmpty = true := by rw [txt_toL]; rfl
  generalize txt ([] : List UInt8) = tr at HT e3
  clear h hx hT
  generalize txt (s.data.toList.take (s.size - 8)) = ta at HA ⊢
  generalize txt (s.data.toList.drop (s.size - 8)) = tb at HB ⊢
  obtain ⟨n, hn⟩ : ∃ n, s.size = n + 8 := ⟨s.size - 8, by omega⟩
  rw [show s.size - 8 = n by omega] at HT HA HB
  have b3 : (s.size : Int) - 8 = (n : Int) := by omega
  have b4 : n ≤ s.size := by omega
  clear hn
  go_enter Tryz.func137, Tryz.ntmps137
  go_wp2_with fail
  go_quiet (fail)
  go_wp2_with fail
  refine (HT.out _).mono ?_
  rintro e w1 ⟨rfl, hb⟩
  go_wp2_with fail
  go_ret3
  exact ⟨by rw [← HA.out, ← HB.out]; rfl, (below_drewN (Below.refl _ _) nq).trans hb⟩

end Go.Proofs.YtchnbnmajagpjaaGreatDoor

namespace Go.Proofs.YtchnbnmajagpjaaGreatDoor
open Go.RowKit Go.Shelf
attribute [local go_sem] Oper.semAt_some


theorem sp_only {c : UInt8} : sp32 c = true ↔ c = 32 := by
  simp only [sp32, decide_eq_true_eq]
  exact ⟨fun h => UInt8.toNat_inj.1 (by rw [h]; rfl), fun h => by rw [h]; rfl⟩
theorem index_sp_none {l : List UInt8} (h : Lib.indexByte l 32 = -1) : pieces sp32 l = [l] := by
  refine pieces_none sp32 l fun c hc => ?_
  cases hs : sp32 c with
  | false => rfl
  | true =>
    obtain ⟨i, hi⟩ := List.mem_iff_getElem?.1 hc
    have := Lib.indexByte_none h i
    rw [hi, sp_only.1 hs] at this
    exact absurd rfl this
theorem index_sp_some {l : List UInt8} {o : Nat} (h : Lib.indexByte l 32 = o) : o < l.length ∧ pieces sp32 l = l.take o :: pieces sp32 (l.drop (o + 1)) := by
  obtain ⟨h1, h2⟩ := Lib.indexByte_some h
  have hlt : o < l.length := (List.getElem?_eq_some_iff.1 h1).1
  refine ⟨hlt, ?_⟩
  have hc : sp32 l[o] = true := by rw [List.getElem?_eq_getElem hlt] at h1; exact sp_only.2 (Option.some.inj h1)
  have := cut_at sp32 l 0 o (Nat.zero_le _) hlt (by
    intro c hc
    rw [List.drop_zero, Nat.sub_zero] at hc
    cases hs : sp32 c with
    | false => rfl
    | true =>
      obtain ⟨i, hi⟩ := List.mem_iff_getElem?.1 hc
      have hio : i < o := by
        have := (List.getElem?_eq_some_iff.1 hi).1
        rw [List.length_take] at this; omega
      rw [List.getElem?_take_of_lt hio, sp_only.1 hs] at hi
      exact absurd hi (h2 i hio)) hc
  simpa using this

set_option maxHeartbeats 400000 in
theorem index_any (s : ByteArray) (w : World) : Calls Tryz.prog 175 #[.string s, .string ⟨#[32]⟩] w fun e w' => e = .returned (.int .i64 (Lib.indexByte s.data.toList 32)) ∧ w' = w := by
  go_enter Tryz.func175, Tryz.ntmps175
  go_wp2_with (go_at_call 154; refine (stringslite_Index_one _ _ _).mono ?_; rintro e w' ⟨rfl, rfl⟩)
  go_ret
  exact ⟨rfl, rfl⟩
theorem index_is {s : ByteArray} {i : Int} (h : Lib.indexByte s.data.toList 32 = i) (w : World) : Calls Tryz.prog 175 #[.string s, .string ⟨#[32]⟩] w fun e w' => e = .returned (.int .i64 i) ∧ w' = w := by
  have := index_any s w; rwa [h] at this

/-- A text is told as itself. -/
def TextR : Nat → (Nat → Prop) → ByteArray → Array Value → World → Prop := fun _ _ x vs _ => vs = #[.string x]
theorem textR_abides : AbidesR TextR := fun _ _ _ _ _ _ _ _ h _ _ _ => h

/-- The length of the text in a box. -/
def strAt (w : World) (b : Nat) : Nat := match w.cell? ⟨b, 0, none⟩ with
  | some (.string r) => r.size
  | _ => 0
theorem strAt_is {w : World} {b : Nat} {t : TypeId} {r : ByteArray} (h : Boxed w b t (.string r)) : strAt w b = r.size := by unfold strAt; rw [h.cell]

theorem boxed_other {W : World} {B b : Nat} {t : TypeId} {v : Value} (h : Boxed W B t v) (v' : Value) (hne : B ≠ b) : Boxed (W.setCell ⟨b, 0, none⟩ v') B t v :=
  h.kept (grownBy_setCell' W b v') (by intro e; exact hne (Option.some.inj e))

set_option maxRecDepth 100000 in
set_option maxHeartbeats 2000000 in
theorem split1_tells (n : Nat) (s : ByteArray) (hs : s.size ≤ maxLen) (bp bs bv : Nat) (hps : bp ≠ bs) (hvs : bv ≠ bs) (w : World)
    (hbp : Boxed w bp 9 (.string ⟨#[32]⟩)) (hbs : Boxed w bs 9 (.string s)) (hbv : Boxed w bv 3 (.int .i64 0)) :
    TellsR n Tryz.prog 174 #[.pointer (some ⟨bp, 0, none⟩), .pointer (some ⟨bs, 0, none⟩), .pointer (some ⟨bv, 0, none⟩)] TextR (fun j => j = bp ∨ j = bs ∨ j = bv) ((pieces sp32 s.data.toList).map txt) w := by
  intro l J Jx W hW hJ hJx hY h0
  have hB1 := hW.boxed hbp (.inl rfl)
  have hB2 := hW.boxed hbs (.inr (.inl rfl))
  have hB3 := hW.boxed hbv (.inr (.inr rfl))
  unfold maxLen at hs
  refine callsIn_of_wp Tryz.func174 rfl trivial ?_ rfl
  simp only [Tryz.ntmps174, List.size_toArray, List.length_cons, List.length_nil, Nat.reduceAdd, Nat.reduceSub, Array.replicate_succ, Array.replicate_zero, List.push_toArray, List.append_toArray, List.nil_append, List.cons_append]
  have hc1 := hB1.cell
  have hc2 := hB2.cell
  have hc3 := hB3.cell
  gi_wp2
  gi_loopw [7] (fun _ wr => ∃ (r : ByteArray) (pre : List ByteArray), r.size ≤ s.size ∧ (pieces sp32 s.data.toList).map txt = pre ++ (pieces sp32 r.data.toList).map txt ∧
      Boxed wr bp 9 (.string ⟨#[32]⟩) ∧ Boxed wr bs 9 (.string r) ∧ Boxed wr bv 3 (.int .i64 0) ∧ J (fun j => j = bp ∨ j = bs ∨ j = bv) pre wr)
    (fun _ wr => strAt wr bs)
  case atStart => exact ⟨s, [], Nat.le_refl _, by simp, hB1, hB2, hB3, h0⟩
  case round =>
    obtain ⟨r, pre, hrs, hp, hr1, hr2, hr3, hJs⟩ := hrel
    have hm := strAt_is hr2
    have hc4 := hr1.cell
    have hc5 := hr2.cell
    have hc6 := hr3.cell
    have hge := Lib.indexByte_ge r.data.toList 32
    rcases Int.lt_or_le (Lib.indexByte r.data.toList 32) 0 with hneg | hpos
    · have hi : Lib.indexByte r.data.toList 32 = -1 := by omega
      have HI := Lib.hid (index_is hi)
      have hpx : (pieces sp32 s.data.toList).map txt = pre ++ [r] := by rw [hp, index_sp_none hi]; simp [txt_toList]
      have hR0 := hY _ pre r #[.string r] _ hJs (by rw [hpx]; exact List.prefix_refl _) rfl
      obtain ⟨fn, tmps, assign, body, hy, hR⟩ := hR0
      have HP := Lib.hid hpx
      have HR := Lib.hid hR
      clear hpx hp hR hi hneg hge
      gi_wp2
      refine ⟨trivial, (fun h => (by cases h)), (callsIn_wide.2 (HI.out _)).mono ?_⟩
      rintro e w' ⟨rfl, rfl⟩
      gi_wp2
      refine ⟨(fun h => (by cases h)), (RoundIn.depth HR.out).mono ?_⟩
      rintro e W3 ⟨hk3, (⟨rfl, hJ3⟩ | ⟨rfl, hJx3⟩)⟩
      · gi_wp2
        go_end0
        exact ⟨⟨_, rfl⟩, _, .inl (by rw [HP.out]; exact hJ3)⟩
      · gi_wp2
        go_end0
        exact ⟨⟨_, rfl⟩, _, .inr ⟨pre ++ [r], by rw [HP.out]; exact List.prefix_refl _, hJx3⟩⟩
    · obtain ⟨o, ho⟩ : ∃ o : Nat, Lib.indexByte r.data.toList 32 = o := ⟨_, (Int.toNat_of_nonneg hpos).symm⟩
      have HI := Lib.hid (index_is ho)
      obtain ⟨hol, hcut⟩ := index_sp_some ho
      rw [size_list] at hol
      have hA : r.extract 0 o = txt (r.data.toList.take o) := by rw [extract_txt, List.drop_zero, Nat.sub_zero]
      have hB : (r.extract (o + 1) r.size).data.toList = r.data.toList.drop (o + 1) := Lib.extract_to_end r (o + 1)
      have hBz : (r.extract (o + 1) r.size).size = r.size - (o + 1) := by rw [ByteArray.size_extract]; omega
      have hpx : (pieces sp32 s.data.toList).map txt = (pre ++ [r.extract 0 o]) ++ (pieces sp32 (r.extract (o + 1) r.size).data.toList).map txt := by
        rw [hp, hcut, hA, hB]; simp
      have hR0 := hY _ pre (r.extract 0 o) #[.string (r.extract 0 o)] _ hJs ⟨_, hpx.symm⟩ rfl
      obtain ⟨fn, tmps, assign, body, hy, hR⟩ := hR0
      have HP := Lib.hid hpx
      have HR := Lib.hid hR
      have ho1 : o ≤ r.size := by omega
      have ho2 : o + 1 ≤ r.size := by omega
      clear hpx hp hR hA hB hcut ho hpos hge
      gi_wp2
      refine ⟨trivial, (fun h => (by cases h)), (callsIn_wide.2 (HI.out _)).mono ?_⟩
      rintro e w' ⟨rfl, rfl⟩
      gi_wp2
      refine ⟨(fun h => (by cases h)), (RoundIn.depth HR.out).mono ?_⟩
      rintro e W3 ⟨hk3, (⟨rfl, hJ3⟩ | ⟨rfl, hJx3⟩)⟩
      · have hq1 := hk3.boxed hr1 (.inl rfl)
        have hq2 := hk3.boxed hr2 (.inr (.inl rfl))
        have hq3 := hk3.boxed hr3 (.inr (.inr rfl))
        have hc7 := hq1.cell
        have hc8 := hq2.cell
        have hf8 := hq2.frozen
        have hJ4 := hJ _ _ _ _ _ hJ3 (Turned.setCell W3 ⟨bs, 0, none⟩ (.string (r.extract (o + 1) r.size)) (.inr (.inl rfl))) (fun k h => .inl h)
        have hz := strAt_is (hq2.set (.string (r.extract (o + 1) r.size)))
        have HZ := Lib.hid hz
        have HM := Lib.hid hm
        clear hz hm
        gi_wp2
        go_roundw
        case rel => exact ⟨_, _, by omega, HP.out, boxed_other hq1 _ hps, hq2.set _, boxed_other hq3 _ hvs, hJ4⟩
        case measure => rw [HZ.out, HM.out]; omega
      · gi_wp2
        refine bodyPost_ret (results_none rfl _ _ _) rfl ?_
        exact ⟨⟨_, rfl⟩, _, .inr ⟨pre ++ [r.extract 0 o], ⟨_, HP.out.symm⟩, hJx3⟩⟩

end Go.Proofs.YtchnbnmajagpjaaGreatDoor

namespace Go.Proofs.YtchnbnmajagpjaaGreatDoor
open Go.RowKit Go.Shelf
attribute [local go_sem] Oper.semAt_some


theorem turned_of_below {X : Nat → Prop} {W W' : World} (h : Below W.heap.size W W') : Turned X W W' := ⟨h.os, h.tape, h.output, h.size, fun k hk _ => h.block k hk⟩
theorem kept_of_below {X : Nat → Prop} {W W' : World} (h : Below W.heap.size W W') : Kept X W W' := ⟨h.size, fun k _ hk => h.block k hk⟩

theorem mapM_none {ws : List (List UInt8)} {x : List UInt8} (hx : x ∈ ws) (h : unqO x = none) : ws.mapM unqO = none := by
  induction ws with
  | nil => cases hx
  | cons w r ih =>
    rw [List.mapM_cons]
    rcases List.mem_cons.1 hx with rfl | hx
    · rw [h]; rfl
    · rw [ih hx]
      cases unqO w <;> rfl
/-- The texts of a body that ends with a blank. -/
theorem form_end (q : List UInt8) : formOf (q ++ [32]) = if (pieces sp32 q).length ≤ 40 then (pieces sp32 q).mapM unqO else none := by
  have e : pieces sp32 (q ++ [32]) = pieces sp32 q ++ [[]] := pieces_sep sp32 q 32 [] (by decide)
  have hn : 1 ≤ (pieces sp32 q).length := List.length_pos_iff.2 (pieces_ne _ _)
  unfold formOf
  rw [e, List.dropLast_concat]
  by_cases h : (pieces sp32 q).length ≤ 40
  · rw [if_pos h, if_pos ⟨by simp, by simp; omega, by simp; omega⟩]
  · rw [if_neg h, if_neg (by intro ⟨_, _, h3⟩; simp at h3; omega)]
theorem form_noend {b : List UInt8} (h : b.getLast? ≠ some 32) : formOf b = none := by
  cases hf : formOf b with
  | none => rfl
  | some xs =>
    obtain ⟨h1, h2, _⟩ := form_some hf
    exfalso
    apply h
    rw [h1]
    rcases List.eq_nil_or_concat xs with e | ⟨i, a, e⟩
    · rw [e] at h2; simp at h2
    · rw [List.concat_eq_append] at e
      rw [e, body_snoc, List.getLast?_concat]
theorem suffix_sp (l : List UInt8) : Lib.hasSuffix l [32] = true ↔ l.getLast? = some 32 := by
  unfold Lib.hasSuffix
  rw [List.isSuffixOf_iff_suffix]
  constructor
  · rintro ⟨t, rfl⟩; simp
  · intro h
    obtain ⟨ys, hy⟩ := List.getLast?_eq_some_iff.1 h
    exact ⟨ys, hy.symm⟩

theorem unq_yes {l t : List UInt8} {e : Ending} (h : UnqIs l e) (ht : unqO l = some t) : e = .returned (.tuple #[.string (txt t), .int .i64 0]) := h.1 t (unq_some ht)
theorem unq_not {l : List UInt8} {e : Ending} (h : UnqIs l e) (ht : unqO l = none) : e = .returned (.tuple #[.string (txt []), .int .i64 2]) := h.2 (unq_none ht)

theorem ownsRow_shape {W : World} {base : Nat} {e : TypeId} {size : Nat} {v : Value} {n : Nat} {xs : List Value} (h : W.ownsRow base e size v n xs) : ∃ o c, v = .slice o n c := by
  rcases h.2 with ⟨hv, h0⟩ | ⟨g, cap, cur, hv, _⟩
  · exact ⟨none, 0, by rw [hv, h0]⟩
  · exact ⟨_, _, hv⟩
theorem map_txt_inj : ∀ {a b : List (List UInt8)}, a.map txt = b.map txt → a = b
  | [], [], _ => rfl
  | [], _ :: _, h => by simp at h
  | _ :: _, [], h => by simp at h
  | x :: a, y :: b, h => by
    simp only [List.map_cons, List.cons.injEq] at h
    rw [txt_inj h.1, map_txt_inj h.2]
theorem infoString : (Tryz.prog.info? 9).map (fun i => (i.zero, i.size, i.bytes)) = some (some (.string ⟨#[]⟩), 1, 16) := by kernel_rfl

/-- What unquoteAll answers. -/
def AllPost (b : List UInt8) (w : World) (e : Ending) (w' : World) : Prop := Below w.heap.size w w' ∧
  ((formOf b = none ∧ e = .returned (.tuple #[.slice none 0 0, .int .i64 2])) ∨ ∃ xs v, formOf b = some xs ∧ e = .returned (.tuple #[v, .int .i64 0]) ∧ w'.ownsRow w.heap.size 9 1 v xs.length ((xs.map txt).map Value.string))

set_option maxHeartbeats 400000 in
theorem splitSeq_any (s : ByteArray) (w : World) : Calls Tryz.prog 151 #[.string s, .string ⟨#[32]⟩] w fun e w' =>
    e = .returned (.func (.func 174) #[] #[.pointer (some ⟨w.heap.size + 1, 0, none⟩), .pointer (some ⟨w.heap.size, 0, none⟩), .pointer (some ⟨w.heap.size + 1 + 1, 0, none⟩)]) ∧
    ((w.alloc (.cells #[.string s] 9)).alloc (.cells #[.string ⟨#[32]⟩] 9)).alloc (.cells #[.int .i64 0] 3) = w' := by
  go_enter Tryz.func151, Tryz.ntmps151
  go_wp2
  go_ret
  exact ⟨rfl, rfl⟩

/-- Between two rounds: what has been told was quoted, and its texts lie in the list. -/
def HoldsU (B : Nat) (n₀ n₁ : Nat) (w : World) (X : Nat → Prop) (pre : List ByteArray) (W : World) : Prop :=
  (∃ xs : List (List UInt8), pre = xs.map (fun x => txt (quoteOf x)) ∧ xs.length ≤ 40 ∧ ∃ v, Boxed W B 39 v ∧ W.ownsRow n₁ 9 1 v xs.length ((xs.map txt).map Value.string) ∧ ∀ r, v.ownBlock = some r → ¬ X r) ∧
  (Boxed W n₀ 39 (.slice none 0 0) ∧ Boxed W (n₀ + 1) 33 (.int .i64 0)) ∧ (¬ X B ∧ ¬ X n₀ ∧ ¬ X (n₀ + 1)) ∧ Below n₀ w W ∧ (∀ k, X k → n₀ ≤ k ∧ k < W.heap.size)
def LeftU (b : List UInt8) (n₀ : Nat) (w : World) (c : Code) (X : Nat → Prop) (_ : List ByteArray) (W : World) : Prop :=
  c = .ret ∧ formOf b = none ∧ (Boxed W n₀ 39 (.slice none 0 0) ∧ Boxed W (n₀ + 1) 33 (.int .i64 2)) ∧ (¬ X n₀ ∧ ¬ X (n₀ + 1)) ∧ Below n₀ w W ∧ (∀ k, X k → n₀ ≤ k ∧ k < W.heap.size)

theorem x_step {X X' : Nat → Prop} {A C : World} {n₀ : Nat} (hn : n₀ ≤ A.heap.size) (hs : A.heap.size ≤ C.heap.size) (hX : ∀ k, X k → n₀ ≤ k ∧ k < A.heap.size) (hsub : ∀ k, X' k → X k ∨ (A.heap.size ≤ k ∧ k < C.heap.size)) : ∀ k, X' k → n₀ ≤ k ∧ k < C.heap.size := by
  intro k h
  rcases hsub k h with h | h
  · have := hX k h; omega
  · omega
theorem x_not {X X' : Nat → Prop} {A C : World} (hsub : ∀ k, X' k → X k ∨ (A.heap.size ≤ k ∧ k < C.heap.size)) {B : Nat} (hB : ¬ X B) (hlt : B < A.heap.size) : ¬ X' B := by
  intro h
  rcases hsub B h with h | h
  · exact hB h
  · omega

theorem holdsU_abides (B n₀ n₁ : Nat) (w : World) (hn : n₀ ≤ w.heap.size) : Abides' (HoldsU B n₀ n₁ w) := by
  rintro X X' pre A C ⟨⟨xs, hp, h40, v, hv, hr, hx⟩, ⟨hb1, hb2⟩, ⟨hB, hB1, hB2⟩, hb, hX⟩ hT hsub
  have hs := hb.size
  refine ⟨⟨xs, hp, h40, v, hT.boxed hv hB, hT.ownsRow hr hx, fun r e => x_not hsub (hx r e) (hr.lt r e).2⟩, ⟨hT.boxed hb1 hB1, hT.boxed hb2 hB2⟩, ⟨x_not hsub hB hv.lt, x_not hsub hB1 hb1.lt, x_not hsub hB2 hb2.lt⟩, hb.trans (hT.below (by omega) fun k h => (hX k h).1), x_step (by omega) hT.size hX hsub⟩
theorem leftU_abides (b : List UInt8) (n₀ : Nat) (w : World) (hn : n₀ ≤ w.heap.size) (c : Code) : Abides' (LeftU b n₀ w c) := by
  rintro X X' pre A C ⟨hc, hf, ⟨hb1, hb2⟩, ⟨hB1, hB2⟩, hb, hX⟩ hT hsub
  have hs := hb.size
  exact ⟨hc, hf, ⟨hT.boxed hb1 hB1, hT.boxed hb2 hB2⟩, ⟨x_not hsub hB1 hb1.lt, x_not hsub hB2 hb2.lt⟩, hb.trans (hT.below (by omega) fun k h => (hX k h).1), x_step (by omega) hT.size hX hsub⟩

set_option maxRecDepth 100000 in
set_option maxHeartbeats 1000000 in
theorem unquoteAll_no (s : ByteArray) (hs : s.size ≤ maxLen) (h : s.data.toList.getLast? ≠ some 32) (w : World) : Calls Tryz.prog 138 #[.string s] w (AllPost s.data.toList w) := by
  have hf := form_noend h
  have hx : Lib.hasSuffix s.data.toList [32] = false := by
    cases hx : Lib.hasSuffix s.data.toList [32] with
    | false => rfl
    | true => exact absurd ((suffix_sp _).1 hx) h
  have HC := Lib.hid (cuts_f (s := s) (p := ⟨#[32]⟩) hs hx)
  have HF := Lib.hid hf
  clear hf hx h hs
  go_enter Tryz.func138, Tryz.ntmps138
  go_wp2_with fail
  refine (HC.out _).mono ?_
  rintro e w' ⟨rfl, rfl⟩
  go_wp2_with fail
  refine bodyPost_ret (v := .tuple #[.slice none 0 0, .int .i64 2]) ?_ rfl ⟨?_, .inl ⟨HF.out, rfl⟩⟩
  · simp [results, Tryz.results138, go_sem]
  · exact ((Below.refl _ _).alloc (Nat.le_refl _) _).alloc (by simp) _

set_option maxRecDepth 100000 in
set_option maxHeartbeats 4000000 in
theorem unquoteAll_yes (s : ByteArray) (hs : s.size ≤ 13000) (h : s.data.toList.getLast? = some 32) (w : World) : Calls Tryz.prog 138 #[.string s] w (AllPost s.data.toList w) := by
  obtain ⟨i0, hi, hz0, hz1, hz2⟩ := info_parts infoString
  have hx := (suffix_sp _).2 h
  have hC := cuts_t (s := s) (p := ⟨#[32]⟩) (by unfold maxLen; omega) hx
  have hq : s.data.toList = s.data.toList.take (s.data.toList.length - 1) ++ [32] := by
    obtain ⟨ys, hy⟩ := List.getLast?_eq_some_iff.1 h
    rw [hy]; simp
  rw [show (ByteArray.mk #[32]).data.toList.length = 1 from rfl] at hC
  obtain ⟨q, hqd⟩ : ∃ q, q = s.data.toList.take (s.data.toList.length - 1) := ⟨_, rfl⟩
  rw [← hqd] at hC hq
  have hqs : q.length ≤ 13000 := by
    have := congrArg List.length hq
    rw [size_list, List.length_append] at this
    simp at this; omega
  have hF := form_end q
  rw [← hq] at hF
  have hlen : ∀ x ∈ pieces sp32 q, x.length ≤ 13000 := by
    intro x hx
    have : ∀ (l : List UInt8), ∀ x ∈ pieces sp32 l, x.length ≤ l.length := by
      intro l
      induction l with
      | nil => intro x hx; simp [pieces] at hx; subst hx; simp
      | cons c r ih =>
        intro x hx
        simp only [pieces] at hx
        split at hx
        · rcases List.mem_cons.1 hx with rfl | hx
          · simp
          · have := ih x hx; simp; omega
        · split at hx
          · rename_i a t hp
            rcases List.mem_cons.1 hx with rfl | hx
            · have := ih a (by rw [hp]; simp); simp; omega
            · have := ih x (by rw [hp]; simp [hx]); simp; omega
          · simp at hx; subst hx; simp
    have := this q x hx; omega
  have HC := Lib.hid hC
  have HF := Lib.hid hF
  have HL := Lib.hid hlen
  clear hC hq hqd hx hF hlen h hs
  refine (callsIn_wide (n := 9)).1 ?_
  refine callsIn_of_wp_marks Tryz.func138 rfl trivial ?_ rfl
  simp only [Tryz.ntmps138, List.size_toArray, List.length_cons, List.length_nil, Nat.reduceAdd, Nat.reduceSub, Array.replicate_succ, Array.replicate_zero, List.push_toArray, List.append_toArray, List.nil_append, List.cons_append]
  gi_wp2
  refine ⟨trivial, (callsIn_wide.2 (HC.out _)).mono ?_⟩
  rintro e w' ⟨rfl, rfl⟩
  gi_wp2
  refine ⟨trivial, (callsIn_wide.2 (splitSeq_any _ _)).mono ?_⟩
  rintro e w' ⟨rfl, rfl⟩
  gi_wp2
  have hv1 := Boxed.new w 39 (.slice none 0 0)
  have hv2 := Boxed.new (w.alloc (.cells #[.slice none 0 0] 39)) 33 (.int .i64 0)
  have hv3 := Boxed.new ((w.alloc (.cells #[.slice none 0 0] 39)).alloc (.cells #[.int .i64 0] 33)) 39 (.slice none 0 0)
  have hv4 := Boxed.new (((w.alloc (.cells #[.slice none 0 0] 39)).alloc (.cells #[.int .i64 0] 33)).alloc (.cells #[.slice none 0 0] 39)) 9 (.string (txt q))
  have hv5 := Boxed.new ((((w.alloc (.cells #[.slice none 0 0] 39)).alloc (.cells #[.int .i64 0] 33)).alloc (.cells #[.slice none 0 0] 39)).alloc (.cells #[.string (txt q)] 9)) 9 (.string ⟨#[32]⟩)
  have hv6 := Boxed.new (((((w.alloc (.cells #[.slice none 0 0] 39)).alloc (.cells #[.int .i64 0] 33)).alloc (.cells #[.slice none 0 0] 39)).alloc (.cells #[.string (txt q)] 9)).alloc (.cells #[.string ⟨#[32]⟩] 9)) 3 (.int .i64 0)
  simp only [World.size_alloc] at hv1 hv2 hv3 hv4 hv5 hv6
  have bV1 := ((((hv1.alloc (.cells #[.int .i64 0] 33)).alloc (.cells #[.slice none 0 0] 39)).alloc (.cells #[.string (txt q)] 9)).alloc (.cells #[.string ⟨#[32]⟩] 9)).alloc (.cells #[.int .i64 0] 3)
  have bV2 := (((hv2.alloc (.cells #[.slice none 0 0] 39)).alloc (.cells #[.string (txt q)] 9)).alloc (.cells #[.string ⟨#[32]⟩] 9)).alloc (.cells #[.int .i64 0] 3)
  have bV3 := ((hv3.alloc (.cells #[.string (txt q)] 9)).alloc (.cells #[.string ⟨#[32]⟩] 9)).alloc (.cells #[.int .i64 0] 3)
  have bV4 := (hv4.alloc (.cells #[.string ⟨#[32]⟩] 9)).alloc (.cells #[.int .i64 0] 3)
  have bV5 := hv5.alloc (.cells #[.int .i64 0] 3)
  have hbV : Below w.heap.size w ((((((w.alloc (.cells #[.slice none 0 0] 39)).alloc (.cells #[.int .i64 0] 33)).alloc (.cells #[.slice none 0 0] 39)).alloc (.cells #[.string (txt q)] 9)).alloc (.cells #[.string ⟨#[32]⟩] 9)).alloc (.cells #[.int .i64 0] 3)) :=
    ((((((Below.refl w.heap.size w).alloc (Nat.le_refl _) _).alloc (by simp) _).alloc (by simp; omega) _).alloc (by simp; omega) _).alloc (by simp; omega) _).alloc (by simp; omega) _
  have hVs : ((((((w.alloc (.cells #[.slice none 0 0] 39)).alloc (.cells #[.int .i64 0] 33)).alloc (.cells #[.slice none 0 0] 39)).alloc (.cells #[.string (txt q)] 9)).alloc (.cells #[.string ⟨#[32]⟩] 9)).alloc (.cells #[.int .i64 0] 3)).heap.size = w.heap.size + 6 := by simp
  clear hv1 hv2 hv3 hv4 hv5
  generalize ((((((w.alloc (.cells #[.slice none 0 0] 39)).alloc (.cells #[.int .i64 0] 33)).alloc (.cells #[.slice none 0 0] 39)).alloc (.cells #[.string (txt q)] 9)).alloc (.cells #[.string ⟨#[32]⟩] 9)).alloc (.cells #[.int .i64 0] 3)) = V at bV1 bV2 bV3 bV4 bV5 hv6 hbV hVs ⊢
  have hT := fun n => split1_tells n (txt q) (by rw [txt_size]; unfold maxLen; omega) (w.heap.size + 1 + 1 + 1 + 1) (w.heap.size + 1 + 1 + 1) (w.heap.size + 1 + 1 + 1 + 1 + 1) (by omega) (by omega) V bV5 bV4 hv6
  rw [txt_data] at hT
  clear bV4 bV5 hv6
  refine wpIn_rangeR (gf := 174) rfl (enters_of Tryz.func174 (by kernel_rfl) rfl) (hT _) (Kept.refl _ _) ?_ textR_abides (fun _ _ _ _ _ h => by rw [h]; rfl)
    (HoldsU (w.heap.size + 1 + 1) w.heap.size w.heap.size w) (LeftU s.data.toList w.heap.size w) (holdsU_abides _ _ _ _ (Nat.le_refl _)) (leftU_abides _ _ _ (Nat.le_refl _))
    ⟨⟨[], rfl, Nat.zero_le _, _, bV3, World.ownsRow_nil _ _ _ _, by simp [Value.ownBlock]⟩, ⟨bV1, bV2⟩, ⟨by rintro (h | h | h) <;> omega, by rintro (h | h | h) <;> omega, by rintro (h | h | h) <;> omega⟩, hbV, by rintro k (h | h | h) <;> omega⟩
    (fun vs => { tmps := #[.string s, undef, .pointer (some ⟨w.heap.size, 0, none⟩), .pointer (some ⟨w.heap.size + 1, 0, none⟩), .string (txt q), .bool true, .pointer (some ⟨w.heap.size + 1 + 1, 0, none⟩), vs.getD 0 undef, undef, undef,
      .tuple #[.string (txt q), .bool true], .string s, .tuple #[.string (txt q), .bool true], .string (txt q), .bool true, .bool true, .bool false, .string (txt q),
      .func (.func 174) #[] #[.pointer (some ⟨w.heap.size + 1 + 1 + 1 + 1, 0, none⟩), .pointer (some ⟨w.heap.size + 1 + 1 + 1, 0, none⟩), .pointer (some ⟨w.heap.size + 1 + 1 + 1 + 1 + 1, 0, none⟩)],
      vs.getD 0 undef, undef, undef, undef, undef, undef, undef, undef, undef, undef, undef, undef, undef, undef, undef, undef, undef, undef], defers := [] }) ?assign ?body ?done ?stop
  case assign =>
    intro l m X x vs U K hR hK
    obtain rfl : vs = #[.string x] := hR
    gi_wp2
    exact hK
  case body =>
    rintro l' X pre x vs U ⟨⟨xs, hp, h40, v, hv, hrow, hvx⟩, ⟨hb1, hb2⟩, ⟨hXB, hX1, hX2⟩, hB, hX⟩ hpre hR
    obtain rfl : vs = #[.string x] := hR
    simp only [show (#[Value.string x]).getD 0 undef = Value.string x from rfl]
    obtain ⟨pc, hpc, hpx⟩ : ∃ pc, pc ∈ pieces sp32 q ∧ x = txt pc := by
      have hm : x ∈ (pieces sp32 q).map txt := hpre.subset (by simp)
      obtain ⟨pc, h1, h2⟩ := List.mem_map.1 hm
      exact ⟨pc, h1, h2.symm⟩
    have hxd : x.data.toList = pc := by rw [hpx, txt_data]
    have hxz : x.size ≤ 13000 := by rw [hpx, txt_size]; exact HL.out pc hpc
    have hUq := unquote_any x (by omega)
    unfold UnqPost at hUq
    rw [hxd] at hUq
    have hn0 := hB.size
    have hl1 := hb1.lt
    have hl2 := hb2.lt
    have hl3 := hv.lt
    obtain ⟨vo, vc, rfl⟩ := ownsRow_shape hrow
    cases hu : unqO pc with
    | none =>
      have HQ : Hid (∀ w, Calls Tryz.prog 152 #[.string x] w fun e w' => e = .returned (.tuple #[.string (txt []), .int .i64 2]) ∧ Below w.heap.size w w') := fun w => (hUq w).mono fun e w' h => ⟨unq_not h.1 hu, h.2⟩
      have HN : Hid (formOf s.data.toList = none) := by
        show _ = _
        rw [HF.out]
        split
        · exact mapM_none hpc hu
        · rfl
      clear hUq hpc hpx hxd hu
      gi_wp2
      refine ⟨trivial, (CallsIn.inRound l' (callsIn_wide.2 (HQ.out _))).mono ?_⟩
      rintro e w1 ⟨rfl, hbq⟩
      have hq1 := (turned_of_below (X := X) hbq).boxed hb1 hX1
      have hq2 := (turned_of_below (X := X) hbq).boxed hb2 hX2
      have hc1 := hq1.cell
      have hf1 := hq1.frozen
      have hc2 := hq2.cell
      have hf2 := hq2.frozen
      have hzq := hbq.size
      gi_wp2
      refine ⟨((kept_of_below hbq).trans (Kept.setCell _ _ _ hX1)).trans (Kept.setCell _ _ _ hX2), rfl, HN.out, ⟨boxed_other (hq1.set _) _ (by omega), (boxed_other hq2 _ (by omega)).set _⟩, ⟨hX1, hX2⟩, ((hB.trans (hbq.mono hn0)).setCell (p := ⟨w.heap.size, 0, none⟩) (Nat.le_refl _) _).setCell (p := ⟨w.heap.size + 1, 0, none⟩) (by show w.heap.size ≤ w.heap.size + 1; omega) _, fun k h => ?_⟩
      have := hX k h; simp; omega
    | some t =>
      have HQ : Hid (∀ w, Calls Tryz.prog 152 #[.string x] w fun e w' => e = .returned (.tuple #[.string (txt t), .int .i64 0]) ∧ Below w.heap.size w w') := fun w => (hUq w).mono fun e w' h => ⟨unq_yes h.1 hu, h.2⟩
      by_cases h4 : xs.length = 40
      · have HN : Hid (formOf s.data.toList = none) := by
          show _ = _
          rw [HF.out, if_neg]
          have := hpre.length_le
          rw [hp, List.length_append, List.length_map, List.length_map] at this
          simp at this; omega
        clear hUq hpc hpx hxd hu
        have e4 : ((xs.length : Int) == 40) = true := by rw [h4]; rfl
        gi_wp2
        refine ⟨trivial, (CallsIn.inRound l' (callsIn_wide.2 (HQ.out _))).mono ?_⟩
        rintro e w1 ⟨rfl, hbq⟩
        have hq1 := (turned_of_below (X := X) hbq).boxed hb1 hX1
        have hq2 := (turned_of_below (X := X) hbq).boxed hb2 hX2
        have hq3 := (turned_of_below (X := X) hbq).boxed hv hXB
        have hc1 := hq1.cell
        have hf1 := hq1.frozen
        have hc2 := hq2.cell
        have hf2 := hq2.frozen
        have hc3 := hq3.cell
        have hzq := hbq.size
        gi_wp2
        refine ⟨((kept_of_below hbq).trans (Kept.setCell _ _ _ hX1)).trans (Kept.setCell _ _ _ hX2), rfl, HN.out, ⟨boxed_other (hq1.set _) _ (by omega), (boxed_other hq2 _ (by omega)).set _⟩, ⟨hX1, hX2⟩, ((hB.trans (hbq.mono hn0)).setCell (p := ⟨w.heap.size, 0, none⟩) (Nat.le_refl _) _).setCell (p := ⟨w.heap.size + 1, 0, none⟩) (by show w.heap.size ≤ w.heap.size + 1; omega) _, fun k h => ?_⟩
        have := hX k h; simp; omega
      · have hpre2 : pre ++ [x] = (xs ++ [t]).map (fun x => txt (quoteOf x)) := by
          rw [hp, hpx, List.map_append, List.map_cons, List.map_nil, unq_some hu]
        have HPR := Lib.hid hpre2
        clear hpre2 hUq hpx
        gi_wp2
        refine ⟨trivial, (CallsIn.inRound l' (callsIn_wide.2 (HQ.out _))).mono ?_⟩
        rintro e w1 ⟨rfl, hbq⟩
        have hq1 := (turned_of_below (X := X) hbq).boxed hb1 hX1
        have hq2 := (turned_of_below (X := X) hbq).boxed hb2 hX2
        have hq3 := (turned_of_below (X := X) hbq).boxed hv hXB
        have hc3 := hq3.cell
        have hzq := hbq.size
        have e4 : ((xs.length : Int) == 40) = false := by rw [beq_eq_false_iff_ne]; omega
        have hr3 := (turned_of_below (X := X) hbq).ownsRow hrow hvx
        have hBq := hB.trans (hbq.mono hn0)
        have hml : xs.length + 1 ≤ maxLen := by unfold maxLen; omega
        clear hp hpre hpc hxd hu
        gi_wp2_with (gi_at_builtin; go_loud (refine wpListIn_append_own_at _ rfl _ _ 39 rfl w.heap.size 9 i0 (.string ⟨#[]⟩) 1 16 Tryz.underlying39 hi hz0 hz1 hz2 rfl (by decide) _ _ _ rfl (hr3.alloc _) ⟨w1.heap.size, 0, none⟩ 1 1 [.string (txt t)] rfl rfl (cell_one_new _ _ _) (by simp [Value.oneCell']) hml (by omega) (by simp; omega) ?_); go_loud (intro v' w2 hown' hgrow _ hat; obtain ⟨g', cap', rfl⟩ := ownsRow_succ hown'; obtain ⟨hv1, hv2, hr2, _, hb2'⟩ := hq3.appended (by decide) hr3 (by omega) (by omega) hown' hgrow; have hc4 := hv1.cell; have hf4 := hv1.frozen))
        have hg1 := hgrow.size
        rw [World.size_alloc] at hg1
        have hat' : ∀ r, (Value.slice (some ⟨g', 0, none⟩) (xs.length + 1) cap').ownBlock = some r → ¬ X r := by
          intro r e hx
          rcases hat with h | h
          · exact hvx r (h ▸ e) hx
          · rw [h] at e; cases e; have := hX _ hx; rw [World.size_alloc] at this; omega
        have hne1 : some w.heap.size ≠ (Value.slice vo xs.length vc).ownBlock := hq1.not_row (by decide) hr3
        have hne2 : some (w.heap.size + 1) ≠ (Value.slice vo xs.length vc).ownBlock := hq2.not_row (by decide) hr3
        refine ⟨(((kept_of_below hbq).trans (Kept.alloc X w1 _)).trans (Kept.grown hgrow hvx)).trans (Kept.setCell _ _ _ hXB), ⟨xs ++ [t], HPR.out, by simp; omega, _, hv2, ?_, hat'⟩, ⟨boxed_other ((hq1.alloc _).kept hgrow hne1) _ (by omega), boxed_other ((hq2.alloc _).kept hgrow hne2) _ (by omega)⟩, ⟨hXB, hX1, hX2⟩, hBq.trans hb2', fun k h => ?_⟩
        · simpa using hr2
        · have := hX k h; simp; omega
  case done =>
    rintro D X U hD hXD ⟨⟨xs, hp, h40, v, hv, hrow, hvx⟩, ⟨hb1, hb2⟩, ⟨hXB, hX1, hX2⟩, hB, hX⟩ hK
    have hc1 := hb1.cell
    have hf1 := hb1.frozen
    have hc2 := hb2.cell
    have hf2 := hb2.frozen
    have hc3 := hv.cell
    have hFS : Hid (formOf s.data.toList = some xs) := by
      have h1 : pieces sp32 q = xs.map quoteOf := by
        have h2 : (pieces sp32 q).map txt = (xs.map quoteOf).map txt := by rw [hp, List.map_map]; rfl
        exact map_txt_inj h2
      show _ = _
      rw [HF.out, h1, List.length_map, if_pos h40, map_unq]
    obtain ⟨vo, vc, rfl⟩ := ownsRow_shape hrow
    have hsz := hB.size
    have hDn : D ≠ w.heap.size ∧ D ≠ w.heap.size + 1 := by omega
    have hne1 : some w.heap.size ≠ (Value.slice vo xs.length vc).ownBlock := hb1.not_row (by decide) hrow
    have hne2 : some (w.heap.size + 1) ≠ (Value.slice vo xs.length vc).ownBlock := hb2.not_row (by decide) hrow
    gi_wp2
    have hK2 : ((U.setCell ⟨w.heap.size, 0, none⟩ (.slice vo xs.length vc)).setCell ⟨w.heap.size + 1, 0, none⟩ (.int .i64 0)).heap[D]? = some (.deferred (some [])) :=
      ((Below.heap_setCell _ _ _ _ hDn.2).trans (Below.heap_setCell _ _ _ _ hDn.1)).trans hK
    refine ⟨by simp, .inl ⟨_, _, rfl, run_takeDeferred hK2, ?_⟩⟩
    have hY : Turned (fun k => k = w.heap.size ∨ k = w.heap.size + 1 ∨ k = D) U (((U.setCell ⟨w.heap.size, 0, none⟩ (.slice vo xs.length vc)).setCell ⟨w.heap.size + 1, 0, none⟩ (.int .i64 0)).putObj D (.deferred none)) :=
      ((Turned.setCell U ⟨w.heap.size, 0, none⟩ _ (.inl rfl)).trans (Turned.setCell _ ⟨w.heap.size + 1, 0, none⟩ _ (.inr (.inl rfl)))).trans (Turned.putObj _ D _ (.inr (.inr rfl)))
    have hr9 := hY.ownsRow hrow (by
      rintro r hr (h | h | h)
      · exact hne1 (by rw [hr, h])
      · exact hne2 (by rw [hr, h])
      · exact hvx r hr (h ▸ hXD))
    have hb9 : Below w.heap.size w _ := hB.trans (hY.below hsz (by rintro k (h | h | h) <;> omega))
    have hp1 : Boxed (((U.setCell ⟨w.heap.size, 0, none⟩ (.slice vo xs.length vc)).setCell ⟨w.heap.size + 1, 0, none⟩ (.int .i64 0)).putObj D (.deferred none)) w.heap.size 39 (.slice vo xs.length vc) :=
      (World.putObj_heap_other (Ne.symm hDn.1)).trans (boxed_other (hb1.set _) _ (by omega))
    have hp2 : Boxed (((U.setCell ⟨w.heap.size, 0, none⟩ (.slice vo xs.length vc)).setCell ⟨w.heap.size + 1, 0, none⟩ (.int .i64 0)).putObj D (.deferred none)) (w.heap.size + 1) 33 (.int .i64 0) :=
      (World.putObj_heap_other (Ne.symm hDn.2)).trans ((boxed_other hb2 _ (by omega)).set _)
    generalize (((U.setCell ⟨w.heap.size, 0, none⟩ (.slice vo xs.length vc)).setCell ⟨w.heap.size + 1, 0, none⟩ (.int .i64 0)).putObj D (.deferred none)) = Z at hp1 hp2 hr9 hb9 ⊢
    have c1 := hp1.cell
    have c2 := hp2.cell
    exact ⟨.tuple #[.slice vo xs.length vc, .int .i64 0], by simp [results, Tryz.results138, go_sem, c1, c2], hb9, .inr ⟨xs, _, hFS.out, rfl, hr9⟩⟩
  case stop =>
    rintro D X c pre U hD hXD hpre ⟨rfl, hf, ⟨hb1, hb2⟩, ⟨hX1, hX2⟩, hB, hX⟩ hK
    have hc1 := hb1.cell
    have hc2 := hb2.cell
    have hsz := hB.size
    have hDn : D ≠ w.heap.size ∧ D ≠ w.heap.size + 1 := by omega
    gi_wp2
    refine ⟨by simp, .inl ⟨_, _, rfl, run_takeDeferred hK, ?_⟩⟩
    have hY : Turned (fun k => k = D) U (U.putObj D (.deferred none)) := Turned.putObj _ D _ rfl
    have hb9 : Below w.heap.size w _ := hB.trans (hY.below hsz (by rintro k h; omega))
    have hp1 : Boxed (U.putObj D (.deferred none)) w.heap.size 39 (.slice none 0 0) := (World.putObj_heap_other (Ne.symm hDn.1)).trans hb1
    have hp2 : Boxed (U.putObj D (.deferred none)) (w.heap.size + 1) 33 (.int .i64 2) := (World.putObj_heap_other (Ne.symm hDn.2)).trans hb2
    generalize U.putObj D (.deferred none) = Z at hp1 hp2 hb9 ⊢
    have c1 := hp1.cell
    have c2 := hp2.cell
    exact ⟨.tuple #[.slice none 0 0, .int .i64 2], by simp [results, Tryz.results138, go_sem, c1, c2], hb9, .inl ⟨hf, rfl⟩⟩
  · rintro k (h | h | h) <;> omega

end Go.Proofs.YtchnbnmajagpjaaGreatDoor

namespace Go.Proofs.YtchnbnmajagpjaaGreatDoor
open Go.RowKit Go.Shelf


theorem unquoteAll_any (s : ByteArray) (hs : s.size ≤ 13000) (w : World) : Calls Tryz.prog 138 #[.string s] w (AllPost s.data.toList w) := by
  by_cases h : s.data.toList.getLast? = some 32
  · exact unquoteAll_yes s hs h w
  · exact unquoteAll_no s (by unfold maxLen; omega) h w

theorem ownsRow_from {W : World} {base base' : Nat} {e : TypeId} {size : Nat} {v : Value} {n : Nat} {xs : List Value} (h : W.ownsRow base e size v n xs) (hb : base' ≤ base) : W.ownsRow base' e size v n xs := by
  refine ⟨h.1, ?_⟩
  rcases h.2 with hn | ⟨g, cap, cur, rfl, h1, rest⟩
  · exact .inl hn
  · exact .inr ⟨g, cap, cur, rfl, by omega, rest⟩

/-- What Take answers beside an error, and which one. -/
def TakeErr (l : List UInt8) (c : Int) : Prop := (takeOf l = .short ∧ c = 14) ∨ (takeOf l = .form ∧ c = 2) ∨ (takeOf l = .sum ∧ c = 13)
def TakePost (l : List UInt8) (w : World) (e : Ending) (w' : World) : Prop := Below w.heap.size w w' ∧
  ((∃ c, TakeErr l c ∧ e = .returned (.tuple #[.slice none 0 0, .string ⟨#[]⟩, .int .i64 c])) ∨
   ∃ xs r v, takeOf l = .ok xs r ∧ e = .returned (.tuple #[v, .string (txt r), .int .i64 0]) ∧ w'.ownsRow w.heap.size 9 1 v xs.length ((xs.map txt).map Value.string))

theorem take_short {l : List UInt8} (h : (headOf l).length = l.length) : takeOf l = .short := by unfold takeOf; rw [if_pos h]
theorem take_bad {l : List UInt8} (h : (headOf l).length ≠ l.length) (hb : BadHead (headOf l)) : takeOf l = .form := by unfold BadHead at hb; unfold takeOf; rw [if_neg h, if_pos hb]
theorem take_noform {l : List UInt8} (h : (headOf l).length ≠ l.length) (hb : ¬ BadHead (headOf l)) (hf : formOf ((headOf l).take ((headOf l).length - 8)) = none) : takeOf l = .form := by
  unfold BadHead at hb; unfold takeOf; rw [if_neg h, if_neg hb, hf]
theorem take_form {l : List UInt8} {xs : List (List UInt8)} (h : (headOf l).length ≠ l.length) (hb : ¬ BadHead (headOf l)) (hf : formOf ((headOf l).take ((headOf l).length - 8)) = some xs) :
    takeOf l = if sealOf ((headOf l).take ((headOf l).length - 8)) = (headOf l).drop ((headOf l).length - 8) then .ok xs (l.drop ((headOf l).length + 1)) else .sum := by
  unfold BadHead at hb; unfold takeOf; rw [if_neg h, if_neg hb, hf]

set_option maxRecDepth 100000 in
set_option maxHeartbeats 2000000 in
theorem take_any (s : ByteArray) (hs : s.size ≤ maxLen) (w : World) : Calls Tryz.prog 117 #[.string s] w (TakePost s.data.toList w) := by
  have hsl := size_list s
  by_cases h : (headOf s.data.toList).length = s.size
  · have HC := Lib.hid (cut_no s h)
    have HT : Hid (takeOf s.data.toList = .short) := take_short (by rw [hsl]; exact h)
    clear h hs hsl
    go_enter Tryz.func117, Tryz.ntmps117
    go_wp2_with fail
    refine (HC.out _).mono ?_
    rintro e w1 ⟨rfl, m, rfl⟩
    go_wp2_with fail
    go_ret3
    exact ⟨below_drewN (Below.refl _ _) m, .inl ⟨14, .inl ⟨HT.out, rfl⟩, rfl⟩⟩
  have hl := head_le s.data.toList
  rw [hsl] at hl
  have HC := Lib.hid (cut_yes s hs h)
  have hn : (headOf s.data.toList).length ≠ s.data.toList.length := by rw [hsl]; exact h
  by_cases hb : BadHead (headOf s.data.toList)
  · have HS := Lib.hid (cutSum_bad (txt (headOf s.data.toList)) (by rw [txt_size]; unfold maxLen at hs ⊢; omega) (by rw [txt_data]; exact hb))
    have HT : Hid (takeOf s.data.toList = .form) := take_bad hn hb
    generalize txt (headOf s.data.toList) = hd at HC HS
    generalize txt (s.data.toList.drop ((headOf s.data.toList).length + 1)) = tl at HC
    clear hb hn hl h hs hsl
    go_enter Tryz.func117, Tryz.ntmps117
    go_wp2_with fail
    refine (HC.out _).mono ?_
    rintro e w1 ⟨rfl, m, rfl⟩
    go_wp2_with fail
    refine (HS.out _).mono ?_
    rintro e w2 ⟨rfl, hb2⟩
    go_wp2_with fail
    go_ret3
    exact ⟨(below_drewN (Below.refl _ _) m).trans hb2, .inl ⟨2, .inr (.inl ⟨HT.out, rfl⟩), rfl⟩⟩
  have hgood := cutSum_good (txt (headOf s.data.toList)) (by rw [txt_data]; exact hb)
  rw [txt_data] at hgood
  have h13 : (headOf s.data.toList).length < 13000 := by
    unfold BadHead at hb
    exact Nat.lt_of_not_le fun x => hb (.inr (.inl x))
  have hua := unquoteAll_any (txt ((headOf s.data.toList).take ((headOf s.data.toList).length - 8))) (by rw [txt_size, List.length_take]; omega)
  have hse := seal_any (txt ((headOf s.data.toList).take ((headOf s.data.toList).length - 8))) (by rw [txt_size, List.length_take]; unfold maxLen; omega)
  rw [txt_data] at hua hse
  have hqe : (!(txt ((headOf s.data.toList).drop ((headOf s.data.toList).length - 8))).toList == (txt (sealOf ((headOf s.data.toList).take ((headOf s.data.toList).length - 8)))).toList) = !decide (sealOf ((headOf s.data.toList).take ((headOf s.data.toList).length - 8)) = (headOf s.data.toList).drop ((headOf s.data.toList).length - 8)) := by
    rw [str_eq]
    congr 1
    rw [decide_eq_decide]
    exact ⟨fun e => (txt_inj e).symm, fun e => by rw [e]⟩
  have hnf := fun (hf : formOf ((headOf s.data.toList).take ((headOf s.data.toList).length - 8)) = none) => take_noform hn hb hf
  have hsf := fun xs (hf : formOf ((headOf s.data.toList).take ((headOf s.data.toList).length - 8)) = some xs) => take_form hn hb hf
  have HG := Lib.hid hgood
  have HU := Lib.hid hua
  have HS := Lib.hid hse
  have HQ := Lib.hid hqe
  have HNF := Lib.hid hnf
  have HSF := Lib.hid hsf
  clear hgood hua hse hqe hnf hsf h13 hb hn hl h hs hsl
  have hqs : (sealOf ((headOf s.data.toList).take ((headOf s.data.toList).length - 8)) = (headOf s.data.toList).drop ((headOf s.data.toList).length - 8)) ∨ ¬ (sealOf ((headOf s.data.toList).take ((headOf s.data.toList).length - 8)) = (headOf s.data.toList).drop ((headOf s.data.toList).length - 8)) := Classical.em _
  generalize txt (headOf s.data.toList) = hd at HC HG
  generalize txt ((headOf s.data.toList).drop ((headOf s.data.toList).length - 8)) = td at HG HQ
  generalize txt ((headOf s.data.toList).take ((headOf s.data.toList).length - 8)) = tb at HG HU HS
  generalize txt (sealOf ((headOf s.data.toList).take ((headOf s.data.toList).length - 8))) = ts at HS HQ
  obtain ⟨tr, htr⟩ : ∃ tr, tr = s.data.toList.drop ((headOf s.data.toList).length + 1) := ⟨_, rfl⟩
  rw [← htr] at HC HSF
  clear htr
  go_enter Tryz.func117, Tryz.ntmps117
  go_wp2_with fail
  refine (HC.out _).mono ?_
  rintro e w1 ⟨rfl, m, rfl⟩
  have hb1 : Below w.heap.size w (w.drewN m) := below_drewN (Below.refl _ _) m
  go_wp2_with fail
  refine (HG.out _).mono ?_
  rintro e w2 ⟨rfl, hb2⟩
  have hb3 := hb1.trans hb2
  clear hb2 HC HG
  go_wp2_with fail
  refine (HU.out _).mono ?_
  rintro e w3 ⟨hb4, (⟨hf, rfl⟩ | ⟨xs, v, hf, rfl, hown⟩)⟩
  · have HT := Lib.hid (HNF.out hf)
    have hb5 := below2 hb3 hb4
    clear HNF HSF HU hf hb4 hb3 hqs
    go_wp2_with fail
    go_ret3
    exact ⟨hb5, .inl ⟨2, .inr (.inl ⟨HT.out, rfl⟩), rfl⟩⟩
  · have HT := Lib.hid (HSF.out xs hf)
    have hb5 := below2 hb3 hb4
    clear HNF HSF HU hf
    rcases hqs with hq | hq
    · have HT2 : Hid (takeOf s.data.toList = .ok xs tr) := by show _ = _; rw [HT.out, if_pos hq]
      have e1 : (!td.toList == ts.toList) = false := by rw [HQ.out, decide_eq_true hq]; rfl
      clear hq HQ HT
      go_wp2_with fail
      refine (HS.out _).mono ?_
      rintro e w4 ⟨rfl, hb6⟩
      have hown2 := (turned_of_below (X := fun _ => False) hb6).ownsRow hown (fun _ _ h => h)
      rw [show w2.heap.size = w2.heap.size from rfl] at hown2
      go_wp2_with fail
      go_ret3
      refine ⟨below2 hb5 hb6, .inr ⟨xs, tr, v, HT2.out, rfl, ?_⟩⟩
      exact ownsRow_from hown2 hb3.size
    · have HT2 : Hid (takeOf s.data.toList = .sum) := by show _ = _; rw [HT.out, if_neg hq]
      have e1 : (!td.toList == ts.toList) = true := by rw [HQ.out, decide_eq_false hq]; rfl
      clear hq HQ HT hown
      go_wp2_with fail
      refine (HS.out _).mono ?_
      rintro e w4 ⟨rfl, hb6⟩
      go_wp2_with fail
      go_ret3
      exact ⟨below2 hb5 hb6, .inl ⟨13, .inr (.inr ⟨HT2.out, rfl⟩), rfl⟩⟩

end Go.Proofs.YtchnbnmajagpjaaGreatDoor

namespace Go.Proofs.YtchnbnmajagpjaaGreatDoor
open Go.RowKit Go.Shelf
attribute [local go_sem] Oper.semAt_some


theorem cell_at {W : World} {b : Nat} {cs : Array Value} {t : TypeId} {fz : Nat × Nat} {k : Nat} {v : Value} (h : W.heap[b]? = some (.cells cs t fz)) (hk : cs[k]? = some v) : W.cell? ⟨b, k, none⟩ = some v := by
  simp [World.cell?, h, hk]

/-- The value reads as the texts, out of a block of texts that was laid at n or behind, and is none of X. -/
def FreshL (W : World) (n : Nat) (X : Nat → Prop) (v : Value) (xs : List (List UInt8)) : Prop :=
  ∃ o c, v = .slice o xs.length c ∧ ∀ j t, xs[j]? = some t → ∃ b f cs fz, o = some ⟨b, f, none⟩ ∧ n ≤ b ∧ ¬ X b ∧ xs.length ≤ c ∧ W.heap[b]? = some (.cells cs 9 fz) ∧ cs[f + j]? = some (.string (txt t))
theorem FreshL.step {W W' : World} {n n' : Nat} {X X' Y : Nat → Prop} {v : Value} {xs : List (List UInt8)} (h : FreshL W n X v xs) (hT : Turned Y W W') (hn : n' ≤ n) (hY : ∀ k, Y k → X k ∨ k < n ∨ W.heap.size ≤ k) (hX' : ∀ k, X' k → X k ∨ k < n ∨ W.heap.size ≤ k) : FreshL W' n' X' v xs := by
  obtain ⟨o, c, hv, hx⟩ := h
  refine ⟨o, c, hv, fun j t hj => ?_⟩
  obtain ⟨b, f, cs, fz, ho, hnb, hnx, hc, hb, hcs⟩ := hx j t hj
  have hlt : b < W.heap.size := (Array.getElem?_eq_some_iff.1 hb).1
  refine ⟨b, f, cs, fz, ho, by omega, ?_, hc, (hT.block b hlt ?_).trans hb, hcs⟩
  · intro h
    rcases hX' b h with h | h | h
    · exact hnx h
    · omega
    · omega
  · intro h
    rcases hY b h with h | h | h
    · exact hnx h
    · omega
    · omega
/-- It reads so behind the growing of a row of another kind. -/
theorem FreshL.grown {W W' : World} {n : Nat} {X : Nat → Prop} {v u : Value} {xs : List (List UInt8)} {base : Nat} {e : TypeId} {size k : Nat} {us : List Value} (h : FreshL W n X v xs) (hrow : W.ownsRow base e size u k us) (he : 9 ≠ e) (hg : W.grownBy W' u.ownBlock) : FreshL W' n X v xs := by
  obtain ⟨o, c, hv, hx⟩ := h
  refine ⟨o, c, hv, fun j t hj => ?_⟩
  obtain ⟨b, f, cs, fz, ho, hnb, hnx, hc, hb, hcs⟩ := hx j t hj
  have hlt : b < W.heap.size := (Array.getElem?_eq_some_iff.1 hb).1
  refine ⟨b, f, cs, fz, ho, hnb, hnx, hc, (hg.block b hlt ?_).trans hb, hcs⟩
  intro e'
  rcases hrow.2 with ⟨rfl, _⟩ | ⟨g, cap, cur, rfl, _, hgg, _⟩
  · simp [Value.ownBlock] at e'
  · obtain rfl : b = g := by simpa [Value.ownBlock] using e'
    rw [hgg] at hb
    cases hb
    exact he rfl
theorem FreshL.owns {W : World} {base n : Nat} {X : Nat → Prop} {v : Value} {xs : List (List UInt8)} (h : W.ownsRow base 9 1 v xs.length ((xs.map txt).map Value.string)) (hn : n ≤ base) (hX : ∀ k, X k → k < base) : FreshL W n X v xs := by
  rcases h.2 with ⟨hv, h0⟩ | ⟨g, cap, cur, hv, hb, hg, hk, hm, hs, ht⟩
  · have : xs = [] := List.eq_nil_of_length_eq_zero h0
    subst this
    exact ⟨none, 0, hv, by simp⟩
  · refine ⟨some ⟨g, 0, none⟩, cap, hv, fun j x hj => ⟨g, 0, cur, _, rfl, by omega, fun h => ?_, hk, hg, ?_⟩⟩
    · have := hX g h; omega
    · have hj' : j < xs.length := (List.getElem?_eq_some_iff.1 hj).1
      have e1 : ((xs.map txt).map Value.string)[j]? = some (.string (txt x)) := by rw [List.getElem?_map, List.getElem?_map, hj]; rfl
      rw [← ht, List.getElem?_take_of_lt (by omega)] at e1
      rw [Nat.zero_add, ← Array.getElem?_toList]; exact e1

/-- A list and what is behind its line, as they are told. -/
def ListR : Nat → (Nat → Prop) → (List (List UInt8) × List UInt8) → Array Value → World → Prop := fun n X x vs W =>
  ∃ v, vs = #[v, .string (txt x.2)] ∧ FreshL W n X v x.1
theorem listR_abides : AbidesR ListR := by
  rintro n X X' Y x vs W W' ⟨v, hv, hx⟩ hT hY hX'
  exact ⟨v, hv, hx.step hT (Nat.le_refl _) (fun k h => (hY k h).elim .inl (fun h => .inr (.inl h))) (fun k h => (hX' k h).elim .inl (fun h => .inr (.inl h)))⟩

def strLen : Value → Nat
  | .string s => s.size
  | _ => 0
theorem err_code {l : List UInt8} {c : Int} (h : TakeErr l c) : (c != 0) = true ∧ (∀ xs r, takeOf l ≠ .ok xs r) := by
  rcases h with ⟨h, rfl⟩ | ⟨h, rfl⟩ | ⟨h, rfl⟩
  · exact ⟨by decide, fun xs r e => by rw [h] at e; cases e⟩
  · exact ⟨by decide, fun xs r e => by rw [h] at e; cases e⟩
  · exact ⟨by decide, fun xs r e => by rw [h] at e; cases e⟩

set_option maxRecDepth 100000 in
set_option maxHeartbeats 2000000 in
theorem lists1_tells (n : Nat) (s : ByteArray) (hs : s.size ≤ maxLen) (b1 : Nat) (w : World) (hb1 : Boxed w b1 9 (.string s)) :
    TellsR n Tryz.prog 116 #[.pointer (some ⟨b1, 0, none⟩)] ListR (fun j => j = b1) (scanOf s.data.toList) w := by
  intro l J Jx W hW hJ hJx hY h0
  have hB1 := hW.boxed hb1 rfl
  have hbl := hB1.lt
  refine callsIn_of_wp Tryz.func116 rfl trivial ?_ rfl
  simp only [Tryz.ntmps116, List.size_toArray, List.length_cons, List.length_nil, Nat.reduceAdd, Nat.reduceSub, Array.replicate_succ, Array.replicate_zero, List.push_toArray, List.append_toArray, List.nil_append, List.cons_append]
  have hc1 := hB1.cell
  gi_wp2
  gi_loopw [3] (fun st wr => ∃ (r : ByteArray) (pre : List (List (List UInt8) × List UInt8)), st = .string r ∧ r.size ≤ s.size ∧ Hid (scanOf s.data.toList = pre ++ scanOf r.data.toList) ∧ W.heap.size ≤ wr.heap.size ∧ J (fun j => j = b1) pre wr)
    (fun st _ => strLen st)
  case atStart => exact ⟨s, [], rfl, Nat.le_refl _, by show _ = _; simp, Nat.le_refl _, h0⟩
  case round =>
    obtain ⟨r, pre, rfl, hrs, HP, hwz, hJs⟩ := hrel
    have HT := Lib.hid (take_any r (Nat.le_trans hrs hs))
    unfold TakePost at HT
    gi_wp2
    refine ⟨trivial, (fun h => (by cases h)), (callsIn_wide.2 (HT.out _)).mono ?_⟩
    rintro e w1 ⟨hbq, (⟨c, he, rfl⟩ | ⟨xs, rr, v, ht, rfl, hown⟩)⟩
    · obtain ⟨ec, hno⟩ := err_code he
      have hJ1 := hJ _ _ _ _ _ hJs (turned_of_below hbq) (fun k h => .inl h)
      have HE : Hid (scanOf s.data.toList = pre) := by show _ = _; rw [HP.out, scan_not hno, List.append_nil]
      clear hno he HT
      gi_wp2
      refine ⟨fun _ h => (by cases h), ?_⟩
      gi_wp2
      refine bodyPost_ret (results_none rfl _ _ _) rfl ?_
      exact ⟨⟨_, rfl⟩, _, .inl (by rw [HE.out]; exact hJ1)⟩
    · have hJ1 := hJ _ _ _ _ _ hJs (turned_of_below hbq) (fun k h => .inl h)
      have hpx : scanOf s.data.toList = (pre ++ [(xs, rr)]) ++ scanOf rr := by rw [HP.out, scan_ok ht]; simp
      have hR0 := hY _ pre (xs, rr) #[v, .string (txt rr)] w1 hJ1 ⟨_, hpx.symm⟩ ⟨v, rfl, FreshL.owns hown hwz (by rintro k rfl; omega)⟩
      have hless := take_less ht
      rw [size_list] at hless
      obtain ⟨fn, tmps, assign, body, hy, hR⟩ := hR0
      have HPX := Lib.hid hpx
      have HR := Lib.hid hR
      have hzq := hbq.size
      clear hpx hR HP HT ht hown
      gi_wp2
      refine ⟨(fun h => (by cases h)), (RoundIn.depth HR.out).mono ?_⟩
      rintro e W3 ⟨hk3, (⟨rfl, hJ3⟩ | ⟨rfl, hJx3⟩)⟩
      · gi_wp2
        go_roundw
        case rel => exact ⟨txt rr, _, rfl, by rw [txt_size]; omega, by show _ = _; rw [txt_data]; exact HPX.out, by have := hk3.size; omega, hJ3⟩
        case measure => simp only [strLen, txt_size]; omega
      · gi_wp2
        refine bodyPost_ret (results_none rfl _ _ _) rfl ?_
        exact ⟨⟨_, rfl⟩, _, .inr ⟨pre ++ [(xs, rr)], ⟨_, HPX.out.symm⟩, hJx3⟩⟩

end Go.Proofs.YtchnbnmajagpjaaGreatDoor

namespace Go.Proofs.YtchnbnmajagpjaaGreatDoor
open Go.ChangeShapes Go.WideShapes Go.ChangeAt Go.RowKit

theorem own_knob : ownKnob Tryz.prog.godebug = none := by kernel_rfl
theorem laid_out : laidOutB Tryz.prog = true := by kernel_rfl

theorem post_true {H : Type} {enc : TypeId × Value → H} {P : Program} {f : Func} {s : ChangeSpec} {W W' : World} {args : Array Value} {ds : List (DataW H)} {before : List MemPlace} {handsOn fresh : Bool} {tb : TypeId}
    (hW : DataW.Whole enc P f.params.toList s.vars false W args.toList ds [] before) (hvs : s.vars = []) (hrt : f.resultTypes = #[tb]) (htb : P.underlying tb = some .bool)
    (hfn : s.fn H (ds ++ []) = { results := [.lit (.bool true)], args := ds })
    (hargs : ∀ sp : Nat → Bool, (∀ p ∈ before, sp p.block = true) → DataW.TrodAll enc P W' 0 sp true f.params.toList args.toList ds before)
    (hb : Below W.heap.size W W') : s.post enc P f false fresh handsOn false W args (.bool true) W' := by
  have hlt : ∀ p ∈ before, p.block < W.heap.size := fun p hp => hW.lt p hp
  have hin : ∀ p ∈ before, (fun b => decide (b < W.heap.size)) p.block = true := fun p hp => by simpa using hlt p hp
  have hres : ∀ (b : Nat) (sp : Nat → Bool) (hd : Bool), DataW.TrodAll enc P W' b sp hd f.resultTypes.toList ((Value.bool true).resultList f.resultTypes.size) (s.fn H (ds ++ [])).results [] := by
    intro b sp hd
    rw [hfn, hrt]
    exact trodAll_mk1 (shut_bool htb true)
  have hvars : ∀ sp : Nat → Bool, DataW.TrodVars enc P W' sp s.vars (s.fn H (ds ++ [])).vars [] := by
    intro sp
    rw [hfn, hvs]
    exact rfl
  have hargs' : ∀ sp : Nat → Bool, (∀ p ∈ before, sp p.block = true) → DataW.TrodAll enc P W' 0 sp true f.params.toList args.toList (s.fn H (ds ++ [])).args before := by
    intro sp h
    rw [hfn]
    exact hargs sp h
  exact ⟨ds, [], before, [], before, [], hW, hres _ _ _, hargs' _ hin, hvars _, World.keptBut_mono (fun p hp => ⟨hp, .inr (.inl hp)⟩) (hb.frame (· ∈ before)), fun h => by cases h⟩

end Go.Proofs.YtchnbnmajagpjaaGreatDoor

namespace Go.Proofs.YtchnbnmajagpjaaGreatDoor
open Go.ChangeShapes Go.WideShapes Go.ChangeAt Go.RowKit

theorem post_true_at {H : Type} {enc : TypeId × Value → H} {P : Program} {f : Func} {s : ChangeSpec} {W W' : World} {args : Array Value} {ds : List (DataW H)} {before : List MemPlace} {handsOn fresh : Bool} {tb : TypeId}
    (hW : DataW.Whole enc P f.params.toList s.vars false W args.toList ds [] before) (hvs : s.vars = []) (hrt : f.resultTypes = #[tb]) (htb : P.underlying tb = some .bool)
    (hfn : s.fn H (ds ++ []) = { results := [.lit (.bool true)], args := ds })
    (hargs : DataW.TrodAll enc P W' 0 (fun b => decide (b < W.heap.size)) true f.params.toList args.toList ds before)
    (hb : Below W.heap.size W W') : s.post enc P f false fresh handsOn false W args (.bool true) W' := by
  refine ⟨ds, [], before, [], before, [], hW, ?_, ?_, ?_, World.keptBut_mono (fun p hp => ⟨hp, .inr (.inl hp)⟩) (hb.frame (· ∈ before)), fun h => by cases h⟩
  · rw [hfn, hrt]; exact trodAll_mk1 (shut_bool htb true)
  · rw [hfn]; exact hargs
  · rw [hfn, hvs]; exact rfl

end Go.Proofs.YtchnbnmajagpjaaGreatDoor

namespace Go.Proofs.YtchnbnmajagpjaaGreatDoor
open Go.ChangeShapes Go.WideShapes Go.ChangeAt Go.RowKit

/-- The value v reads as the texts xs, out of blocks below B; an empty list may lie anywhere. -/
def ReadsO (W : World) (B : Nat) (v : Value) (xs : List ByteArray) : Prop :=
  ∃ o c, v = .slice o xs.length c ∧ ∀ j x, xs[j]? = some x → ∃ b f, o = some ⟨b, f, none⟩ ∧ b < B ∧ xs.length ≤ c ∧ W.cell? ⟨b, f + j, none⟩ = some (.string x)

theorem ReadsO.below {W W' : World} {B B' : Nat} {v : Value} {xs : List ByteArray} (h : ReadsO W B v xs) (hb : Below B W W') (hB : B ≤ B') : ReadsO W' B' v xs := by
  obtain ⟨o, c, hv, hx⟩ := h
  refine ⟨o, c, hv, fun j x hj => ?_⟩
  obtain ⟨b, f, h1, h2, h3, h4⟩ := hx j x hj
  exact ⟨b, f, h1, by omega, h3, (hb.cell (p := ⟨b, f + j, none⟩) h2).trans h4⟩
theorem ReadsO.of_owns {W : World} {base : Nat} {v : Value} {xs : List ByteArray} (h : W.ownsRow base 9 1 v xs.length (xs.map Value.string)) : ReadsO W W.heap.size v xs := by
  rcases h.2 with ⟨hv, hn⟩ | ⟨g, cap, cur, hv, hb, hg, hk, hm, hs, ht⟩
  · have : xs = [] := List.eq_nil_of_length_eq_zero hn
    subst this
    exact ⟨none, 0, hv, by simp⟩
  · refine ⟨some ⟨g, 0, none⟩, cap, hv, fun j x hj => ⟨g, 0, rfl, (Array.getElem?_eq_some_iff.1 hg).1, hk, ?_⟩⟩
    have hj' : j < xs.length := (List.getElem?_eq_some_iff.1 hj).1
    have e1 : (xs.map Value.string)[j]? = some (.string x) := by rw [List.getElem?_map, hj]; rfl
    rw [← ht, List.getElem?_take_of_lt (by omega)] at e1
    have e2 : cur[j]? = some (.string x) := by rw [← Array.getElem?_toList]; exact e1
    simp [World.cell?, hg, e2]
theorem built_readsO (W : World) (xs : List ByteArray) : ReadsO (W.alloc (.cells (xs.map Value.string).toArray 9)) (W.heap.size + 1) (.slice (some ⟨W.heap.size, 0, none⟩) xs.length xs.length) xs := by
  refine ⟨some ⟨W.heap.size, 0, none⟩, xs.length, rfl, fun j x hj => ⟨W.heap.size, 0, rfl, by omega, Nat.le_refl _, ?_⟩⟩
  have e : (W.alloc (.cells (xs.map Value.string).toArray 9)).heap[W.heap.size]? = some (.cells (xs.map Value.string).toArray 9) := World.alloc_heap_new W _
  unfold World.cell?
  simp only [e]
  simp [hj]

theorem cells_string : Tryz.prog.cellsOf 9 = 1 := by kernel_rfl

/-- The value v is the row of the texts xs: nil, or an array's part that holds them. -/
def RowOf (W : World) (B : Nat) (v : Value) (xs : List ByteArray) : Prop :=
  (v = .slice none 0 0 ∧ xs = []) ∨ ∃ (a : Addr) (c : Nat), v = .slice (some a) xs.length c ∧ ∀ j x, xs[j]? = some x → a.spot = none ∧ a.block < B ∧ xs.length ≤ c ∧ W.cell? ⟨a.block, a.off + j, none⟩ = some (.string x)
theorem RowOf.below {W W' : World} {B B' : Nat} {v : Value} {xs : List ByteArray} (h : RowOf W B v xs) (hb : Below B W W') (hB : B ≤ B') : RowOf W' B' v xs := by
  rcases h with h | ⟨a, c, hv, hx⟩
  · exact .inl h
  · refine .inr ⟨a, c, hv, fun j x hj => ?_⟩
    obtain ⟨h1, h2, h3, h4⟩ := hx j x hj
    exact ⟨h1, by omega, h3, (hb.cell (p := ⟨a.block, a.off + j, none⟩) h2).trans h4⟩
theorem RowOf.reads {W : World} {B : Nat} {v : Value} {xs : List ByteArray} (h : RowOf W B v xs) : ReadsO W B v xs := by
  rcases h with ⟨rfl, rfl⟩ | ⟨a, c, rfl, hx⟩
  · exact ⟨none, 0, rfl, by simp⟩
  · refine ⟨some a, c, rfl, fun j x hj => ?_⟩
    obtain ⟨h1, h2, h3, h4⟩ := hx j x hj
    obtain ⟨b, o, sp⟩ := a
    obtain rfl : sp = none := h1
    exact ⟨b, o, rfl, h2, h3, h4⟩
theorem built_row (W : World) (xs : List ByteArray) : RowOf (W.alloc (.cells (xs.map Value.string).toArray 9)) (W.heap.size + 1) (.slice (some ⟨W.heap.size, 0, none⟩) xs.length xs.length) xs := by
  refine .inr ⟨⟨W.heap.size, 0, none⟩, xs.length, rfl, fun j x hj => ⟨rfl, by simp, Nat.le_refl _, ?_⟩⟩
  have e : (W.alloc (.cells (xs.map Value.string).toArray 9)).heap[W.heap.size]? = some (.cells (xs.map Value.string).toArray 9) := World.alloc_heap_new W _
  unfold World.cell?
  simp only [e]
  simp [hj]

set_option maxRecDepth 100000 in
/-- A list of texts that came in reads as some texts, and reads so behind the call. -/
theorem open_list {H : Type} {enc : TypeId × Value → H} {W : World} {base : Nat} {v : Value} {d : DataW H} {ps : List MemPlace}
    (hv : Value.okWide Tryz.prog W .any base 39 v) (h : DataW.Trod enc Tryz.prog W 0 (fun _ => true) true 39 v d ps) (hlt : ∀ x ∈ ps, x.block < W.heap.size) :
    (∃ xs : List ByteArray, xs.length ≤ maxLen ∧ (∀ x ∈ xs, x.size ≤ maxLen) ∧ RowOf W W.heap.size v xs ∧ (xs = [] ∨ ∃ es sp : List (DataW H), d = .slice es sp ∧ es.length = xs.length)) ∧
    ∀ W', Below W.heap.size W W' → DataW.Trod enc Tryz.prog W' 0 (fun b => decide (b < W.heap.size)) true 39 v d ps := by
  refine ⟨?_, fun W' hb => Below.trod laid_out (by kernel_rfl) (of_decide_eq_true (by kernel_rfl)) h hb hlt⟩
  obtain ⟨a0, len, cap, rfl⟩ := okWide_slice Tryz.underlying39 hv
  obtain ⟨fuel, hf⟩ := h
  rcases open_strings Tryz.underlying39 Tryz.underlying9 cells_string hf with ⟨hcs, hx⟩ | ⟨a, len', cap', ss, hcs, _, hl, hm, hz, hx, hcell, hws⟩
  · simp [Value.cells] at hcs
    obtain ⟨rfl, rfl, rfl⟩ := hcs
    exact ⟨[], by simp, by simp, .inl ⟨rfl, rfl⟩, .inl rfl⟩
  · simp [Value.cells] at hcs
    obtain ⟨rfl, rfl, rfl⟩ := hcs
    simp only [Prod.mk.injEq] at hx
    obtain ⟨rfl, rfl⟩ := hx
    simp only [if_true] at hz
    have hlen : (ss.take len).length = len := by rw [List.length_take]; omega
    refine ⟨ss.take len, by omega, fun x hx => hws x (List.mem_of_mem_take hx), .inr ⟨a, cap, by rw [hlen], fun k x hk => ?_⟩, .inr ⟨_, _, rfl, by simp [strs]⟩⟩
    have hk1 : k < len := by have := (List.getElem?_eq_some_iff.1 hk).1; omega
    have hk2 : k < ss.length := by omega
    rw [List.getElem?_take_of_lt hk1, List.getElem?_eq_getElem hk2] at hk
    have hc := hcell k hk2
    obtain ⟨b, off, spot⟩ := a
    have hspot : spot = none := by simpa [Addr.add] using World.cell?_spot (hcell 0 (by omega))
    subst hspot
    refine ⟨rfl, hlt (.cell b (off + k)) (MemPlace.mem_row.2 ⟨k, hk2, by simp⟩), by omega, ?_⟩
    rw [add_plain] at hc
    rw [hc, ← Option.some.inj hk]
    simp [List.getD, List.getElem?_eq_getElem hk2]

theorem bytes_string : Tryz.prog.bytesOf 9 = 16 := by kernel_rfl
/-- A list that came in takes no more bytes than can lie in memory. -/
theorem sized_list {H : Type} {ts : List TypeId} {ds : List (DataW H)} (hsz : (DataW.weightsEach Tryz.prog ts ds).all (· ≤ reachBytes) = true) {j : Nat} {d : DataW H} {xs : List ByteArray} (ht : ts[j]? = some 39) (hd : ds[j]? = some d)
    (h : xs = [] ∨ ∃ es sp : List (DataW H), d = .slice es sp ∧ es.length = xs.length) : xs.length * 16 ≤ 140737488351232 := by
  rcases h with rfl | ⟨es, sp, rfl, he⟩
  · simp
  · have := sized_slice hsz ht hd Tryz.underlying39
    rw [bytes_string] at this
    unfold reachBytes at this
    rw [← he]
    omega

end Go.Proofs.YtchnbnmajagpjaaGreatDoor

namespace Go.Proofs.YtchnbnmajagpjaaGreatDoor
open Go.RowKit Go.Shelf
attribute [local go_sem] Oper.semAt_some


theorem infoList : (Tryz.prog.info? 39).map (fun i => (i.zero, i.size, i.bytes)) = some (some (.slice none 0 0), 1, 24) := by kernel_rfl

/-- How far is scanned when the lists pre have come. -/
def endI (s : List UInt8) (pre : List (List (List UInt8) × List UInt8)) : Int := match pre.getLast? with
  | some x => (s.length : Int) - x.2.length
  | none => 0
theorem endI_snoc (s : List UInt8) (pre : List (List (List UInt8) × List UInt8)) (x : List (List UInt8) × List UInt8) : endI s (pre ++ [x]) = (s.length : Int) - x.2.length := by
  unfold endI; rw [List.getLast?_concat]

/-- The value reads as lists of texts, each in a fresh block of texts. -/
def FreshLL (W : World) (n : Nat) (X : Nat → Prop) (us : List Value) (pre : List (List (List UInt8) × List UInt8)) : Prop :=
  us.length = pre.length ∧ ∀ (i : Nat) (x : List (List UInt8) × List UInt8), pre[i]? = some x → ∃ u, us[i]? = some u ∧ FreshL W n X u x.1

def HoldsS (s : ByteArray) (n₀ : Nat) (w : World) (X : Nat → Prop) (pre : List (List (List UInt8) × List UInt8)) (W : World) : Prop :=
  (∃ v us, Boxed W (n₀ + 1) 63 v ∧ W.ownsRow n₀ 39 1 v pre.length us ∧ FreshLL W (n₀ + 4) X us pre ∧ ∀ r, v.ownBlock = some r → ¬ X r) ∧
  (Boxed W n₀ 9 (.string s) ∧ Boxed W (n₀ + 2) 3 (.int .i64 (endI s.data.toList pre))) ∧ (¬ X n₀ ∧ ¬ X (n₀ + 1) ∧ ¬ X (n₀ + 2)) ∧ Below n₀ w W ∧ (∀ k, X k → n₀ ≤ k ∧ k < W.heap.size)

theorem FreshLL.step {W W' : World} {n : Nat} {X X' Y : Nat → Prop} {us : List Value} {pre : List (List (List UInt8) × List UInt8)} (h : FreshLL W n X us pre) (hT : Turned Y W W') (hY : ∀ k, Y k → X k ∨ k < n ∨ W.heap.size ≤ k) (hX' : ∀ k, X' k → X k ∨ k < n ∨ W.heap.size ≤ k) : FreshLL W' n X' us pre := by
  refine ⟨h.1, fun i x hi => ?_⟩
  obtain ⟨u, h1, h2⟩ := h.2 i x hi
  exact ⟨u, h1, h2.step hT (Nat.le_refl _) hY hX'⟩

theorem holdsS_abides (s : ByteArray) (n₀ : Nat) (w : World) (hn : n₀ ≤ w.heap.size) : Abides' (HoldsS s n₀ w) := by
  rintro X X' pre A C ⟨⟨v, us, hv, hr, hf, hx⟩, ⟨hb1, hb2⟩, ⟨hX1, hX2, hX3⟩, hb, hX⟩ hT hsub
  have hs := hb.size
  refine ⟨⟨v, us, hT.boxed hv hX2, hT.ownsRow hr hx, hf.step hT (fun k h => .inl h) (fun k h => ?_), fun r e => x_not hsub (hx r e) (hr.lt r e).2⟩, ⟨hT.boxed hb1 hX1, hT.boxed hb2 hX3⟩, ⟨x_not hsub hX1 hb1.lt, x_not hsub hX2 hv.lt, x_not hsub hX3 hb2.lt⟩, hb.trans (hT.below (by omega) fun k h => (hX k h).1), x_step (by omega) hT.size hX hsub⟩
  rcases hsub k h with h | h
  · exact .inl h
  · exact .inr (.inr h.1)

/-- The value reads as lists of texts, out of blocks below B. -/
def ReadsLL (W : World) (B : Nat) (v : Value) (xss : List (List ByteArray)) : Prop :=
  ∃ o c, v = .slice o xss.length c ∧ ∀ i xs, xss[i]? = some xs → ∃ b f u, o = some ⟨b, f, none⟩ ∧ b < B ∧ xss.length ≤ c ∧ W.cell? ⟨b, f + i, none⟩ = some u ∧ ReadsO W B u xs
theorem ReadsLL.below {W W' : World} {B B' : Nat} {v : Value} {xss : List (List ByteArray)} (h : ReadsLL W B v xss) (hb : Below B W W') (hB : B ≤ B') : ReadsLL W' B' v xss := by
  obtain ⟨o, c, hv, hx⟩ := h
  refine ⟨o, c, hv, fun i xs hi => ?_⟩
  obtain ⟨b, f, u, h1, h2, h3, h4, h5⟩ := hx i xs hi
  exact ⟨b, f, u, h1, by omega, h3, (hb.cell (p := ⟨b, f + i, none⟩) h2).trans h4, h5.below hb hB⟩
theorem FreshL.readsO {W : World} {n : Nat} {X : Nat → Prop} {v : Value} {xs : List (List UInt8)} (h : FreshL W n X v xs) : ReadsO W W.heap.size v (xs.map txt) := by
  obtain ⟨o, c, hv, hx⟩ := h
  refine ⟨o, c, by rw [List.length_map]; exact hv, fun j t hj => ?_⟩
  rw [List.getElem?_map] at hj
  cases hq : xs[j]? with
  | none => rw [hq] at hj; cases hj
  | some y =>
    rw [hq] at hj
    cases hj
    obtain ⟨b, f, cs, fz, ho, _, _, hc, hb, hcs⟩ := hx j y hq
    exact ⟨b, f, ho, (Array.getElem?_eq_some_iff.1 hb).1, by rw [List.length_map]; exact hc, cell_at hb hcs⟩
/-- The value reads as the texts, out of blocks of P. -/
def ReadsF (P : Nat → Prop) (W : World) (v : Value) (xs : List ByteArray) : Prop :=
  ∃ o c, v = .slice o xs.length c ∧ ∀ j x, xs[j]? = some x → ∃ b f, o = some ⟨b, f, none⟩ ∧ P b ∧ b < W.heap.size ∧ xs.length ≤ c ∧ W.cell? ⟨b, f + j, none⟩ = some (.string x)
/-- The value reads as the lists of texts, out of blocks of P. -/
def ReadsFF (P : Nat → Prop) (W : World) (v : Value) (xss : List (List ByteArray)) : Prop :=
  ∃ o c, v = .slice o xss.length c ∧ ∀ i xs, xss[i]? = some xs → ∃ b f u, o = some ⟨b, f, none⟩ ∧ P b ∧ b < W.heap.size ∧ xss.length ≤ c ∧ W.cell? ⟨b, f + i, none⟩ = some u ∧ ReadsF P W u xs
theorem turned_cell {X : Nat → Prop} {W W' : World} (h : Turned X W W') {b k : Nat} (hb : b < W.heap.size) (hx : ¬ X b) : W'.cell? ⟨b, k, none⟩ = W.cell? ⟨b, k, none⟩ := by
  unfold World.cell?
  rw [h.block b hb hx]
theorem ReadsF.kept {P X : Nat → Prop} {W W' : World} {v : Value} {xs : List ByteArray} (h : ReadsF P W v xs) (hT : Turned X W W') (hd : ∀ n, P n → n < W.heap.size → ¬ X n) : ReadsF P W' v xs := by
  obtain ⟨o, c, hv, hx⟩ := h
  refine ⟨o, c, hv, fun j x hj => ?_⟩
  obtain ⟨b, f, h1, h2, h3, h4, h5⟩ := hx j x hj
  exact ⟨b, f, h1, h2, Nat.lt_of_lt_of_le h3 hT.size, h4, (turned_cell hT h3 (hd b h2 h3)).trans h5⟩
theorem ReadsFF.kept {P X : Nat → Prop} {W W' : World} {v : Value} {xss : List (List ByteArray)} (h : ReadsFF P W v xss) (hT : Turned X W W') (hd : ∀ n, P n → n < W.heap.size → ¬ X n) : ReadsFF P W' v xss := by
  obtain ⟨o, c, hv, hx⟩ := h
  refine ⟨o, c, hv, fun j x hj => ?_⟩
  obtain ⟨b, f, u, h1, h2, h3, h4, h5, h6⟩ := hx j x hj
  exact ⟨b, f, u, h1, h2, Nat.lt_of_lt_of_le h3 hT.size, h4, (turned_cell hT h3 (hd b h2 h3)).trans h5, h6.kept hT hd⟩
theorem ReadsF.wider {P Q : Nat → Prop} {W : World} {v : Value} {xs : List ByteArray} (h : ReadsF P W v xs) (hd : ∀ n, P n → n < W.heap.size → Q n) : ReadsF Q W v xs := by
  obtain ⟨o, c, hv, hx⟩ := h
  refine ⟨o, c, hv, fun j x hj => ?_⟩
  obtain ⟨b, f, h1, h2, h3, h4, h5⟩ := hx j x hj
  exact ⟨b, f, h1, hd b h2 h3, h3, h4, h5⟩
theorem ReadsFF.wider {P Q : Nat → Prop} {W : World} {v : Value} {xss : List (List ByteArray)} (h : ReadsFF P W v xss) (hd : ∀ n, P n → n < W.heap.size → Q n) : ReadsFF Q W v xss := by
  obtain ⟨o, c, hv, hx⟩ := h
  refine ⟨o, c, hv, fun j x hj => ?_⟩
  obtain ⟨b, f, u, h1, h2, h3, h4, h5, h6⟩ := hx j x hj
  exact ⟨b, f, u, h1, hd b h2 h3, h3, h4, h5, h6.wider hd⟩
theorem ReadsF.reads {P : Nat → Prop} {W : World} {v : Value} {xs : List ByteArray} (h : ReadsF P W v xs) : ReadsO W W.heap.size v xs := by
  obtain ⟨o, c, hv, hx⟩ := h
  refine ⟨o, c, hv, fun j x hj => ?_⟩
  obtain ⟨b, f, h1, h2, h3, h4, h5⟩ := hx j x hj
  exact ⟨b, f, h1, h3, h4, h5⟩
theorem ReadsFF.reads {P : Nat → Prop} {W : World} {v : Value} {xss : List (List ByteArray)} (h : ReadsFF P W v xss) : ReadsLL W W.heap.size v xss := by
  obtain ⟨o, c, hv, hx⟩ := h
  refine ⟨o, c, hv, fun j x hj => ?_⟩
  obtain ⟨b, f, u, h1, h2, h3, h4, h5, h6⟩ := hx j x hj
  exact ⟨b, f, u, h1, h3, h4, h5, h6.reads⟩
theorem FreshL.readsF {W : World} {n lo : Nat} {X : Nat → Prop} {v : Value} {xs : List (List UInt8)} (h : FreshL W n X v xs) (hn : lo ≤ n) : ReadsF (fun b => lo ≤ b) W v (xs.map txt) := by
  obtain ⟨o, c, hv, hx⟩ := h
  refine ⟨o, c, by rw [List.length_map]; exact hv, fun j t hj => ?_⟩
  rw [List.getElem?_map] at hj
  cases hq : xs[j]? with
  | none => rw [hq] at hj; cases hj
  | some y =>
    rw [hq] at hj
    cases hj
    obtain ⟨b, f, cs, fz, ho, hb1, _, hc, hb, hcs⟩ := hx j y hq
    exact ⟨b, f, ho, Nat.le_trans hn hb1, (Array.getElem?_eq_some_iff.1 hb).1, by rw [List.length_map]; exact hc, cell_at hb hcs⟩
theorem readsFF_owns {W : World} {base n lo : Nat} {X : Nat → Prop} {v : Value} {us : List Value} {pre : List (List (List UInt8) × List UInt8)} (hrow : W.ownsRow base 39 1 v pre.length us) (hf : FreshLL W n X us pre) (h1 : lo ≤ base) (h2 : lo ≤ n) : ReadsFF (fun b => lo ≤ b) W v (pre.map fun x => x.1.map txt) := by
  rcases hrow.2 with ⟨hv, h0⟩ | ⟨g, cap, cur, hv, hb, hg, hk, hm, hs, ht⟩
  · have : pre = [] := List.eq_nil_of_length_eq_zero h0
    subst this
    exact ⟨none, 0, hv, by simp⟩
  · refine ⟨some ⟨g, 0, none⟩, cap, by rw [List.length_map]; exact hv, fun i xs hi => ?_⟩
    rw [List.getElem?_map] at hi
    cases hq : pre[i]? with
    | none => rw [hq] at hi; cases hi
    | some y =>
      rw [hq] at hi
      cases hi
      obtain ⟨u, h3, h4⟩ := hf.2 i y hq
      have hlt : i < pre.length := (List.getElem?_eq_some_iff.1 hq).1
      refine ⟨g, 0, u, rfl, Nat.le_trans h1 hb, (Array.getElem?_eq_some_iff.1 hg).1, by rw [List.length_map]; exact hk, ?_, h4.readsF h2⟩
      rw [← ht, List.getElem?_take_of_lt (by omega)] at h3
      exact cell_at hg (by rw [Nat.zero_add, ← Array.getElem?_toList]; exact h3)

def ScanPost (s : ByteArray) (w : World) (e : Ending) (w' : World) : Prop := Below w.heap.size w w' ∧
  ∃ v, e = .returned (.tuple #[v, .int .i64 (endI s.data.toList (scanOf s.data.toList))]) ∧ ReadsFF (fun b => w.heap.size ≤ b) w' v ((scanOf s.data.toList).map fun x => x.1.map txt)

theorem scan_rest : ∀ (n : Nat) (s : List UInt8), s.length ≤ n → ∀ x ∈ scanOf s, x.2.length ≤ s.length
  | n, s, hn => by
    intro x hx
    rcases take_kinds (takeOf s) with h | h | h | ⟨xs, r, h⟩
    · rw [scan_not (by intro xs r e; rw [h] at e; cases e)] at hx; cases hx
    · rw [scan_not (by intro xs r e; rw [h] at e; cases e)] at hx; cases hx
    · rw [scan_not (by intro xs r e; rw [h] at e; cases e)] at hx; cases hx
    · have h1 := take_less h
      rw [scan_ok h] at hx
      cases n with
      | zero => omega
      | succ n =>
        rcases List.mem_cons.1 hx with rfl | hx
        · show r.length ≤ _; omega
        · have := scan_rest n r (by omega) x hx; omega

set_option maxHeartbeats 400000 in
theorem lists_any (s : ByteArray) (w : World) : Calls Tryz.prog 104 #[.string s] w fun e w' =>
    e = .returned (.func (.func 116) #[] #[.pointer (some ⟨w.heap.size, 0, none⟩)]) ∧ w.alloc (.cells #[.string s] 9) = w' := by
  go_enter Tryz.func104, Tryz.ntmps104
  go_wp2
  go_ret
  exact ⟨rfl, rfl⟩

set_option maxRecDepth 100000 in
set_option maxHeartbeats 4000000 in
theorem scan_any (s : ByteArray) (hs : s.size ≤ 1000000) (w : World) : Calls Tryz.prog 83 #[.string s] w (ScanPost s w) := by
  obtain ⟨i0, hi, hz0, hz1, hz2⟩ := info_parts infoList
  have hsl := size_list s
  have hml : s.size ≤ maxLen := by unfold maxLen; omega
  have hlen := scan_len _ s.data.toList (Nat.le_refl _)
  rw [hsl] at hlen
  have hrest := scan_rest _ s.data.toList (Nat.le_refl _)
  rw [hsl] at hrest
  have HL := Lib.hid hlen
  have HR := Lib.hid hrest
  clear hlen hrest
  refine (callsIn_wide (n := 9)).1 ?_
  refine callsIn_of_wp_marks Tryz.func83 rfl trivial ?_ rfl
  simp only [Tryz.ntmps83, List.size_toArray, List.length_cons, List.length_nil, Nat.reduceAdd, Nat.reduceSub, Array.replicate_succ, Array.replicate_zero, List.push_toArray, List.append_toArray, List.nil_append, List.cons_append]
  gi_wp2
  refine ⟨trivial, (callsIn_wide.2 (lists_any _ _)).mono ?_⟩
  rintro e w' ⟨rfl, rfl⟩
  gi_wp2
  have hv1 := Boxed.new w 9 (.string s)
  have hv2 := Boxed.new (w.alloc (.cells #[.string s] 9)) 63 (.slice none 0 0)
  have hv3 := Boxed.new ((w.alloc (.cells #[.string s] 9)).alloc (.cells #[.slice none 0 0] 63)) 3 (.int .i64 0)
  have hv4 := Boxed.new (((w.alloc (.cells #[.string s] 9)).alloc (.cells #[.slice none 0 0] 63)).alloc (.cells #[.int .i64 0] 3)) 9 (.string s)
  simp only [World.size_alloc] at hv1 hv2 hv3 hv4
  have bV1 := ((hv1.alloc (.cells #[.slice none 0 0] 63)).alloc (.cells #[.int .i64 0] 3)).alloc (.cells #[.string s] 9)
  have bV2 := (hv2.alloc (.cells #[.int .i64 0] 3)).alloc (.cells #[.string s] 9)
  have bV3 := hv3.alloc (.cells #[.string s] 9)
  have hbV : Below w.heap.size w ((((w.alloc (.cells #[.string s] 9)).alloc (.cells #[.slice none 0 0] 63)).alloc (.cells #[.int .i64 0] 3)).alloc (.cells #[.string s] 9)) :=
    ((((Below.refl w.heap.size w).alloc (Nat.le_refl _) _).alloc (by simp) _).alloc (by simp; omega) _).alloc (by simp; omega) _
  have hVs : ((((w.alloc (.cells #[.string s] 9)).alloc (.cells #[.slice none 0 0] 63)).alloc (.cells #[.int .i64 0] 3)).alloc (.cells #[.string s] 9)).heap.size = w.heap.size + 4 := by simp
  clear hv1 hv2 hv3
  generalize ((((w.alloc (.cells #[.string s] 9)).alloc (.cells #[.slice none 0 0] 63)).alloc (.cells #[.int .i64 0] 3)).alloc (.cells #[.string s] 9)) = V at bV1 bV2 bV3 hv4 hbV hVs ⊢
  have hT := fun n => lists1_tells n s hml (w.heap.size + 1 + 1 + 1) V hv4
  clear hv4
  refine wpIn_rangeR (gf := 116) rfl (enters_of Tryz.func116 (by kernel_rfl) rfl) (hT _) (Kept.refl _ _) ?_ listR_abides (fun _ _ _ _ _ h => by obtain ⟨v, h, _⟩ := h; rw [h]; rfl)
    (HoldsS s w.heap.size w) (fun _ _ _ _ => False) (holdsS_abides _ _ _ (Nat.le_refl _)) (fun _ _ _ _ _ _ h _ _ => h)
    ⟨⟨_, [], bV2, World.ownsRow_nil _ _ _ _, ⟨rfl, by simp⟩, by simp [Value.ownBlock]⟩, ⟨bV1, bV3⟩, ⟨by intro h; omega, by intro h; omega, by intro h; omega⟩, hbV, by rintro k h; omega⟩
    (fun vs => { tmps := #[.string s, .pointer (some ⟨w.heap.size, 0, none⟩), .slice none 0 0, .int .i64 0, .pointer (some ⟨w.heap.size + 1, 0, none⟩), .pointer (some ⟨w.heap.size + 1 + 1, 0, none⟩), vs.getD 0 undef, vs.getD 1 undef, .string s,
      .func (.func 116) #[] #[.pointer (some ⟨w.heap.size + 1 + 1 + 1, 0, none⟩)], vs.getD 0 undef, vs.getD 1 undef, undef, undef, undef, undef, undef, undef, undef, undef, undef, undef, undef], defers := [] }) ?assign ?body ?done ?stop
  case assign =>
    rintro l m X x vs U K ⟨v, rfl, hv⟩ hK
    gi_wp2
    exact hK
  case body =>
    rintro l' X pre x vs U ⟨⟨v, us, hv, hrow, hf, hvx⟩, ⟨hb1, hb2⟩, ⟨hX1, hX2, hX3⟩, hB, hX⟩ hpre ⟨u, rfl, hu⟩
    simp only [show (#[u, Value.string (txt x.2)]).getD 0 undef = u from rfl, show (#[u, Value.string (txt x.2)]).getD 1 undef = Value.string (txt x.2) from rfl]
    have hc1 := hb1.cell
    have hc2 := hv.cell
    have hc3 := hb2.cell
    have hf3 := hb2.frozen
    have hxr : (txt x.2).size ≤ s.size := by rw [txt_size]; exact HR.out x (hpre.subset (by simp))
    have hpl : pre.length + 1 ≤ 1000000 := by
      have := hpre.length_le
      have := HL.out
      simp at *; omega
    have hpm : pre.length + 1 ≤ maxLen := by unfold maxLen; omega
    have hsz := hB.size
    have hl1 := hb1.lt
    have hl2 := hv.lt
    have hl3 := hb2.lt
    obtain ⟨ou, cu, rfl, huc⟩ := hu
    have hu2 : FreshL U (w.heap.size + 4) X (.slice ou x.1.length cu) x.1 := by
      have : FreshL U (V.heap.size + 2) X (.slice ou x.1.length cu) x.1 := ⟨ou, cu, rfl, huc⟩
      exact this.step (Turned.refl X U) (by omega) (fun k h => .inl h) (fun k h => .inl h)
    clear huc
    have hEI : endI s.data.toList (pre ++ [x]) = (s.size : Int) - ((txt x.2).size : Int) := by rw [endI_snoc, hsl, txt_size]
    have HE := Lib.hid hEI
    clear hEI hpre
    generalize txt x.2 = y at hxr HE ⊢
    have hne1 : some w.heap.size ≠ v.ownBlock := hb1.not_row (by decide) hrow
    have hne3 : some (w.heap.size + 2) ≠ v.ownBlock := hb2.not_row (by decide) hrow
    gi_wp2_with (gi_at_builtin; refine wpListIn_append_own_at _ rfl _ _ 63 rfl w.heap.size 39 i0 (.slice none 0 0) 1 24 Tryz.underlying63 hi hz0 hz1 hz2 rfl (by decide) _ _ _ rfl (hrow.alloc _) ⟨U.heap.size, 0, none⟩ 1 1 [.slice ou x.1.length cu] rfl rfl (cell_one_new _ _ _) (by simp [Value.oneCell']) hpm (by omega) (by simp; omega) ?_; intro v' w2 hown' hgrow _ hat; obtain ⟨g', cap', rfl⟩ := ownsRow_succ hown'; obtain ⟨hw1, hw2, hr2, _, hb2'⟩ := hv.appended (by decide) hrow (by omega) (by omega) hown' hgrow; have hc4 := hw1.cell; have hf4 := hw1.frozen; have hk1 := (hb1.alloc (.cells #[.slice ou x.1.length cu] 39)).kept hgrow hne1; have hk3 := (hb2.alloc (.cells #[.slice ou x.1.length cu] 39)).kept hgrow hne3; have hc5 := hk1.cell; have hc6 := hk3.cell; have hf6 := hk3.frozen)
    have hat' : ∀ r, (Value.slice (some ⟨g', 0, none⟩) (pre.length + 1) cap').ownBlock = some r → ¬ X r := by
      intro r e hx
      rcases hat with h | h
      · exact hvx r (h ▸ e) hx
      · rw [h] at e; cases e; have := hX _ hx; rw [World.size_alloc] at this; omega
    have hg1 := hgrow.size
    rw [World.size_alloc] at hg1
    have hq3 := boxed_other hk3 (.slice (some ⟨g', 0, none⟩) (pre.length + 1) cap') (b := w.heap.size + 1) (by omega)
    have hq1 := boxed_other hk1 (.slice (some ⟨g', 0, none⟩) (pre.length + 1) cap') (b := w.heap.size + 1) (by omega)
    have hgr : ∀ r, (Value.slice (some ⟨g', 0, none⟩) (pre.length + 1) cap').ownBlock = some r → ¬ r = w.heap.size + 2 := by
      intro r e h
      exact hq3.not_row (by decide) hr2 (by rw [e, h])
    have step : ∀ (u : Value) (xs : List (List UInt8)), FreshL U (w.heap.size + 4) X u xs → FreshL ((w2.setCell ⟨w.heap.size + 1, 0, none⟩ (.slice (some ⟨g', 0, none⟩) (pre.length + 1) cap')).setCell ⟨w.heap.size + 1 + 1, 0, none⟩ (.int .i64 ((s.size : Int) - y.size))) (w.heap.size + 4) X u xs := by
      intro u xs h
      have h1 := h.step (Turned.alloc (fun _ => False) U (.cells #[.slice ou x.1.length cu] 39)) (Nat.le_refl _) (fun k h => h.elim) (fun k h => .inl h)
      have h2 := h1.grown (hrow.alloc _) (by decide) hgrow
      have h3 := h2.step (Turned.setCell (X := fun k => k = w.heap.size + 1) w2 ⟨w.heap.size + 1, 0, none⟩ (.slice (some ⟨g', 0, none⟩) (pre.length + 1) cap') rfl) (Nat.le_refl _) (fun k h => .inr (.inl (by omega))) (fun k h => .inl h)
      exact h3.step (Turned.setCell (X := fun k => k = w.heap.size + 1 + 1) _ ⟨w.heap.size + 1 + 1, 0, none⟩ (.int .i64 ((s.size : Int) - y.size)) rfl) (Nat.le_refl _) (fun k h => .inr (.inl (by omega))) (fun k h => .inl h)
    refine ⟨(((Kept.alloc X U _).trans (Kept.grown hgrow hvx)).trans (Kept.setCell _ _ _ hX2)).trans (Kept.setCell _ _ _ hX3), ⟨_, us ++ [.slice ou x.1.length cu], boxed_other hw2 _ (by omega), ?_, ⟨by rw [List.length_append, List.length_append, hf.1]; rfl, ?_⟩, hat'⟩, ⟨boxed_other hq1 _ (by omega), ?_⟩, ⟨hX1, hX2, hX3⟩, (hB.trans hb2').setCell (p := ⟨w.heap.size + 1 + 1, 0, none⟩) (by show w.heap.size ≤ w.heap.size + 1 + 1; omega) _, fun k h => ?_⟩
    · have := (Turned.setCell (X := fun k => k = w.heap.size + 2) _ ⟨w.heap.size + 1 + 1, 0, none⟩ (.int .i64 ((s.size : Int) - y.size)) rfl).ownsRow hr2 hgr
      simpa using this
    · intro i z hi
      rcases Nat.lt_or_ge i pre.length with h | h
      · rw [List.getElem?_append_left h] at hi
        obtain ⟨u, h1, h2⟩ := hf.2 i z hi
        refine ⟨u, ?_, step u z.1 h2⟩
        rw [List.getElem?_append_left (by rw [hf.1]; exact h)]; exact h1
      · rw [List.getElem?_append_right h] at hi
        have hi0 : i - pre.length = 0 := by
          have := (List.getElem?_eq_some_iff.1 hi).1
          simp at this; omega
        rw [hi0] at hi
        cases hi
        refine ⟨_, ?_, step _ _ hu2⟩
        rw [List.getElem?_append_right (by rw [hf.1]; exact h), hf.1, hi0]; rfl
    · rw [HE.out]; exact hq3.set _
    · have := hX k h; simp; omega
  case done =>
    rintro D X U hD hXD ⟨⟨v, us, hv, hrow, hf, hvx⟩, ⟨hb1, hb2⟩, ⟨hX1, hX2, hX3⟩, hB, hX⟩ hK
    have hc2 := hv.cell
    have hc3 := hb2.cell
    have hsz := hB.size
    gi_wp2
    refine wpIn_wide.2 ?_
    go_quiet (fail)
    gi_wp2
    refine ⟨by simp, .inl ⟨_, _, rfl, run_takeDeferred (show (U.drewN nq).heap[D]? = some (.deferred (some [])) from hK), ?_⟩⟩
    have hY : Turned X U ((U.drewN nq).putObj D (.deferred none)) := (Turned.drewN X U nq).trans (Turned.putObj _ D _ hXD)
    refine ⟨_, results_tmp2 rfl _ _ _, hB.trans (hY.below hsz fun k h => (hX k h).1), v, rfl, ?_⟩
    exact readsFF_owns (hY.ownsRow hrow hvx) (hf.step hY (fun k h => .inl h) (fun k h => .inl h)) (Nat.le_refl _) (by omega)
  case stop =>
    rintro D X c pre U hD hXD hpre h hK
    exact h.elim
  · rintro k h; omega

end Go.Proofs.YtchnbnmajagpjaaGreatDoor

namespace Go.Proofs.YtchnbnmajagpjaaGreatDoor
open Go.RowKit Go.Shelf

theorem scan_shape_fresh {s : ByteArray} {w : World} {e : Ending} {w' : World} (h : ScanPost s w e w') : ∃ o c, e = .returned (.tuple #[.slice o (scanOf s.data.toList).length c, .int .i64 (endI s.data.toList (scanOf s.data.toList))]) ∧ ReadsFF (fun b => w.heap.size ≤ b) w' (.slice o (scanOf s.data.toList).length c) ((scanOf s.data.toList).map fun x => x.1.map txt) ∧ Below w.heap.size w w' := by
  obtain ⟨hb, v, rfl, hr⟩ := h
  have hr' := hr
  obtain ⟨o, c, rfl, _⟩ := hr'
  rw [List.length_map] at hr ⊢
  exact ⟨o, c, rfl, hr, hb⟩
theorem scan_shape {s : ByteArray} {w : World} {e : Ending} {w' : World} (h : ScanPost s w e w') : ∃ o c, e = .returned (.tuple #[.slice o (scanOf s.data.toList).length c, .int .i64 (endI s.data.toList (scanOf s.data.toList))]) ∧ ReadsLL w' w'.heap.size (.slice o (scanOf s.data.toList).length c) ((scanOf s.data.toList).map fun x => x.1.map txt) ∧ Below w.heap.size w w' := by
  obtain ⟨o, c, h1, h2, h3⟩ := scan_shape_fresh h
  exact ⟨o, c, h1, h2.reads, h3⟩
theorem scan_fit : ∀ (n : Nat) (s : List UInt8), s.length ≤ n → ∀ x ∈ scanOf s, Fit x.1
  | n, s, hn => by
    intro x hx
    rcases take_kinds (takeOf s) with h | h | h | ⟨xs, r, h⟩
    · rw [scan_not (by intro xs r e; rw [h] at e; cases e)] at hx; cases hx
    · rw [scan_not (by intro xs r e; rw [h] at e; cases e)] at hx; cases hx
    · rw [scan_not (by intro xs r e; rw [h] at e; cases e)] at hx; cases hx
    · have h1 := take_less h
      rw [scan_ok h] at hx
      cases n with
      | zero => omega
      | succ n =>
        rcases List.mem_cons.1 hx with rfl | hx
        · exact (take_ok h).2
        · exact scan_fit n r (by omega) x hx
theorem scan_small (s : ByteArray) (hs : s.size ≤ 1000000) : ((scanOf s.data.toList).map fun x => x.1.map txt).length ≤ maxLen ∧ ∀ l ∈ (scanOf s.data.toList).map (fun x => x.1.map txt), l.length ≤ maxLen := by
  have h1 := scan_len _ s.data.toList (Nat.le_refl _)
  rw [size_list] at h1
  refine ⟨by rw [List.length_map]; unfold maxLen; omega, fun l hl => ?_⟩
  obtain ⟨x, hx, rfl⟩ := List.mem_map.1 hl
  have := (scan_fit _ s.data.toList (Nat.le_refl _) x hx).2.1
  rw [List.length_map]; unfold maxLen; omega


end Go.Proofs.YtchnbnmajagpjaaGreatDoor

namespace Go.Proofs.YtchnbnmajagpjaaGreatDoor
open Go.RowKit Go.Shelf


/-- The texts as lists of bytes. -/
def rawOf (xs : List ByteArray) : List (List UInt8) := xs.map fun x => x.data.toList
/-- What Put answers: the line, or nothing and the error. -/
def PutIs (xs : List (List UInt8)) (e : Ending) : Prop :=
  (Fit xs ∧ e = .returned (.tuple #[.string (txt (lineOf xs)), .int .i64 0])) ∨ (xs = [] ∧ e = .returned (.tuple #[.string ⟨#[]⟩, .int .i64 1])) ∨ (xs ≠ [] ∧ ¬ Fit xs ∧ e = .returned (.tuple #[.string ⟨#[]⟩, .int .i64 3]))
def PutPost (xs : List (List UInt8)) (w : World) (e : Ending) (w' : World) : Prop := PutIs xs e ∧ Below w.heap.size w w'

theorem raw_len (xs : List ByteArray) : (rawOf xs).length = xs.length := by simp [rawOf]
theorem raw_take (xs : List ByteArray) (k : Nat) (h : k < xs.length) : rawOf (xs.take (k + 1)) = rawOf (xs.take k) ++ [xs[k].data.toList] := by
  unfold rawOf
  rw [List.take_succ_eq_append_getElem h, List.map_append]; rfl
theorem body_append (a b : List (List UInt8)) : bodyOf (a ++ b) = bodyOf a ++ bodyOf b := by simp [bodyOf]
theorem body_mono (xs : List ByteArray) (k : Nat) : (bodyOf (rawOf (xs.take k))).length ≤ (bodyOf (rawOf xs)).length := by
  have : rawOf xs = rawOf (xs.take k) ++ rawOf (xs.drop k) := by unfold rawOf; rw [← List.map_append, List.take_append_drop]
  rw [this, body_append, List.length_append]; omega
theorem body_next (xs : List ByteArray) (k : Nat) (h : k < xs.length) : bodyOf (rawOf (xs.take (k + 1))) = bodyOf (rawOf (xs.take k)) ++ quoteOf xs[k].data.toList ++ [32] := by
  rw [raw_take xs k h, body_snoc]
theorem raw_nil {xs : List ByteArray} (h : xs.length ≠ 0) : rawOf xs ≠ [] := by
  intro e; have := congrArg List.length e; rw [raw_len] at this; exact h this

theorem builder_at_below {T e : TypeId} {B b : Nat} {p : Value} {bs : List Value} {w w' : World} (h : Lib.BuilderAtF T e B b p bs w) (hb : Below w.heap.size w w') : Lib.BuilderAtF T e B b p bs w' := by
  obtain ⟨hB, v, hk, hown, hne⟩ := h
  refine ⟨hB, v, (hb.block b (Array.getElem?_eq_some_iff.1 hk).1).trans hk, ⟨hown.1, ?_⟩, hne⟩
  rcases hown.2 with hn | ⟨g, cap, cur, fz, hv, hbg, hg, rest⟩
  · exact .inl hn
  · exact .inr ⟨g, cap, cur, fz, hv, hbg, (hb.block g (Array.getElem?_eq_some_iff.1 hg).1).trans hg, rest⟩
theorem builder_below {T e : TypeId} {B b : Nat} {bs : List Value} {w w' : World} (h : Lib.IsBuilderF T e B b bs w) (hb : Below w.heap.size w w') : Lib.IsBuilderF T e B b bs w' :=
  h.elim (fun x => .inl (builder_at_below x hb)) (fun x => .inr (builder_at_below x hb))

set_option maxRecDepth 100000 in
set_option maxHeartbeats 4000000 in
theorem put_any (v : Value) (xs : List ByteArray) (w : World) (hr : ReadsO w w.heap.size v xs) (hn : xs.length ≤ maxLen) (hx : ∀ x ∈ xs, x.size ≤ 1000000) : Calls Tryz.prog 47 #[v] w (PutPost (rawOf xs) w) := by
  unfold maxLen at hn
  have HX : Hid (∀ wr, Below w.heap.size w wr → ReadsO wr wr.heap.size v xs) := fun wr hb => hr.below hb hb.size
  obtain ⟨o, c, rfl, _⟩ := hr
  by_cases h0 : xs.length = 0
  · have HN : Hid (PutPost (rawOf xs) w (.returned (.tuple #[.string ⟨#[]⟩, .int .i64 1])) w) := ⟨.inr (.inl ⟨by rw [List.eq_nil_of_length_eq_zero h0]; rfl, rfl⟩), Below.refl _ _⟩
    have e0 : ((xs.length : Int) == 0) = true := by rw [h0]; rfl
    clear hx h0
    go_enter Tryz.func47, Tryz.ntmps47
    go_wp2_with fail
    go_ret2
    exact HN.out
  have e0 : ((xs.length : Int) == 0) = false := by rw [beq_eq_false_iff_ne]; omega
  by_cases h40 : 40 < xs.length
  · have HN : Hid (PutPost (rawOf xs) w (.returned (.tuple #[.string ⟨#[]⟩, .int .i64 3])) w) := ⟨.inr (.inr ⟨raw_nil h0, by intro h; have := h.2.1; rw [raw_len] at this; omega, rfl⟩), Below.refl _ _⟩
    have e1 : decide (40 < (xs.length : Int)) = true := by simp; omega
    clear hx h0
    go_enter Tryz.func47, Tryz.ntmps47
    go_wp2_with fail
    go_ret2
    exact HN.out
  have e1 : decide (40 < (xs.length : Int)) = false := by simp; omega
  have HZ := Lib.hid hx
  have H0 := Lib.hid h0
  have HM := Lib.hid (fun k => body_mono xs k)
  clear hx h0
  go_enter Tryz.func47, Tryz.ntmps47
  go_wp2_with fail
  go_loopw [16] (fun i wr => ∃ k : Nat, k ≤ xs.length ∧ i = .int .i64 k ∧ (bodyOf (rawOf (xs.take k))).length ≤ 60000 ∧ Lib.IsBuilderF 128 5 w.heap.size w.heap.size (Lib.byteCells (bodyOf (rawOf (xs.take k)))) wr ∧ Below w.heap.size w wr) (fun i _ => xs.length - (intOf i).toNat)
  case atStart => exact ⟨0, Nat.zero_le _, rfl, by simp [rawOf, bodyOf], Lib.IsBuilderF.of (Lib.fresh_isBuilder _ _ w), (Below.refl _ w).alloc (Nat.le_refl _) _⟩
  case round =>
    obtain ⟨k, hk, rfl, hbz, hI, hB⟩ := hrel
    have hsz := hB.size
    have hlen : (Lib.byteCells (bodyOf (rawOf (xs.take k)))).length = (bodyOf (rawOf (xs.take k))).length := Lib.byteCells_length _
    by_cases hlt : k < xs.length
    · obtain ⟨o', c', hv', hcell0⟩ := HX.out wr hB
      cases hv'
      obtain ⟨b, f, rfl, hbB, hkc, hcell⟩ := hcell0 k xs[k] (List.getElem?_eq_getElem hlt)
      clear hcell0
      have hkc' : k < c := by omega
      have hxm := HZ.out xs[k] (List.getElem_mem hlt)
      have hnx := body_next xs k hlt
      have hmo := HM.out (k + 1)
      have hql := quote_len xs[k].data.toList
      rw [size_list] at hql
      generalize xs[k] = x at *
      rw [hnx, List.length_append, List.length_append] at hmo
      obtain ⟨bs, hbs⟩ : ∃ bs, bs = Lib.byteCells (bodyOf (rawOf (xs.take k))) := ⟨_, rfl⟩
      rw [← hbs] at hI hlen
      have HBS := Lib.hid hbs
      have HNX := Lib.hid hnx
      clear hbs hnx
      by_cases hbig : 12991 < bs.length + x.size
      · have e2 : decide (12991 < (bs.length : Int) + (x.size : Int)) = true := by simp; omega
        have HN : Hid (PutPost (rawOf xs) w (.returned (.tuple #[.string ⟨#[]⟩, .int .i64 3])) wr) := by
          refine ⟨.inr (.inr ⟨raw_nil H0.out, ?_, rfl⟩), hB⟩
          rintro ⟨_, _, h3⟩
          simp at hmo; omega
        have HLN := Lib.hid (builderLen_any w.heap.size w.heap.size bs wr hI)
        clear hmo hql
        go_wp2_with fail
        refine HLN.out.mono ?_
        rintro e w' ⟨rfl, rfl⟩
        go_wp2_with fail
        go_ret2
        exact HN.out
      · have e2 : decide (12991 < (bs.length : Int) + (x.size : Int)) = false := by simp; omega
        have HLN := Lib.hid (builderLen_any w.heap.size w.heap.size bs wr hI)
        have hqz : (quoteOf x.data.toList).length ≤ 40000 := by omega
        have HQ := Lib.hid (quote_any x (by omega) wr)
        have hqt : (txt (quoteOf x.data.toList)).size ≤ 40000 := by rw [txt_size]; exact hqz
        have hqd : Lib.strCells (txt (quoteOf x.data.toList)) = Lib.byteCells (quoteOf x.data.toList) := by rw [Lib.strCells_eq, txt_data]
        clear hmo hql
        generalize txt (quoteOf x.data.toList) = q at HQ hqt hqd
        have HQD := Lib.hid hqd
        clear hqd
        go_wp2_with fail
        refine HLN.out.mono ?_
        rintro e w' ⟨rfl, rfl⟩
        go_wp2_with fail
        refine HQ.out.mono ?_
        rintro e w2 ⟨rfl, hb2⟩
        have hB2 := hB.trans (hb2.mono hsz)
        have hI2 : Lib.IsBuilderF 128 5 w.heap.size w.heap.size bs w2 := builder_below hI hb2
        go_wp2_with fail
        refine (writeString_any w.heap.size w.heap.size bs q w2 hI2 (by omega) hB2.size).mono ?_
        rintro e w3 ⟨rfl, hI3, hB3, _⟩
        have hB3' := hB2.trans hB3
        go_wp2_with fail
        refine (writeString_any w.heap.size w.heap.size _ ⟨#[32]⟩ w3 (.inr hI3) (by rw [List.length_append, Lib.strCells_length]; show bs.length + q.size + 1 ≤ _; omega) hB3'.size).mono ?_
        rintro e w4 ⟨rfl, hI4, hB4, _⟩
        go_wp2_with fail
        go_roundw
        case rel =>
          refine ⟨k + 1, hlt, by go_num, ?_, ?_, hB3'.trans hB4⟩
          · rw [HNX.out]; simp only [List.length_append, List.length_cons, List.length_nil]; omega
          · rw [HNX.out, Lib.byteCells_append, Lib.byteCells_append, ← HBS.out]
            rw [HQD.out] at hI4
            exact .inr hI4
        case measure => simp [intOf]; omega
    · obtain rfl : k = xs.length := by omega
      rw [List.take_length] at hbz hI hlen
      have hsl := seal_any (txt (bodyOf (rawOf xs))) (by rw [txt_size]; unfold maxLen; omega)
      rw [txt_data] at hsl
      by_cases hbig : 12991 < (bodyOf (rawOf xs)).length
      · have HLN := Lib.hid (builderLen_any w.heap.size w.heap.size _ wr hI)
        have HN : Hid (PutPost (rawOf xs) w (.returned (.tuple #[.string ⟨#[]⟩, .int .i64 3])) wr) := by
          refine ⟨.inr (.inr ⟨raw_nil H0.out, ?_, rfl⟩), hB⟩
          rintro ⟨_, _, h3⟩
          omega
        generalize Lib.byteCells (bodyOf (rawOf xs)) = bs at *
        have e2 : decide (12991 < (bs.length : Int)) = true := by simp; omega
        clear hsl
        go_wp2_with fail
        refine HLN.out.mono ?_
        rintro e w' ⟨rfl, rfl⟩
        go_wp2_with fail
        go_ret2
        exact HN.out
      · have HLN := Lib.hid (builderLen_any w.heap.size w.heap.size _ wr hI)
        have HS := Lib.hid (builderString_any w.heap.size w.heap.size _ wr hI hsz)
        have HF : Hid (Fit (rawOf xs)) := ⟨by rw [raw_len]; have := H0.out; omega, by rw [raw_len]; omega, by omega⟩
        have HE : Hid (txt (bodyOf (rawOf xs)) ++ txt (sealOf (bodyOf (rawOf xs))) ++ ⟨#[10]⟩ = txt (lineOf (rawOf xs))) := by
          show _ = _
          rw [show (⟨#[10]⟩ : ByteArray) = txt [10] from rfl, txt_append, txt_append]; rfl
        have HSL := Lib.hid hsl
        have z1 : (txt (bodyOf (rawOf xs))).size = (bodyOf (rawOf xs)).length := txt_size _
        have z2 : (txt (sealOf (bodyOf (rawOf xs)))).size = 8 := by rw [txt_size, seal_len]
        have HS2 : Hid (Calls Tryz.prog 72 #[.pointer (some ⟨w.heap.size, 0, none⟩)] wr fun e w' => e = .returned (.string (txt (bodyOf (rawOf xs)))) ∧ Below w.heap.size wr w') := HS.out.mono fun e w' h => ⟨h.1, h.2.2.1⟩
        generalize txt (sealOf (bodyOf (rawOf xs))) = ts at HSL HE z2
        generalize txt (bodyOf (rawOf xs)) = tb at HSL HE z1 HS2
        clear HS hI
        generalize Lib.byteCells (bodyOf (rawOf xs)) = bs at *
        have e2 : decide (12991 < (bs.length : Int)) = false := by simp; omega
        have e3 : ¬ 9223372036854775807 < tb.size + ts.size := by omega
        have e4 : ¬ 9223372036854775807 < tb.size + ts.size + 1 := by omega
        have z3 : (tb ++ ts).size = tb.size + ts.size := ByteArray.size_append ..
        clear hsl
        go_wp2_with fail
        refine HLN.out.mono ?_
        rintro e w' ⟨rfl, rfl⟩
        go_wp2_with fail
        refine HS2.out.mono ?_
        rintro e w2 ⟨rfl, hb2⟩
        have hB2 := hB.trans hb2
        go_wp2_with fail
        refine (HSL.out _).mono ?_
        rintro e w3 ⟨rfl, hb3⟩
        go_wp2_with fail
        go_ret2
        refine ⟨.inl ⟨HF.out, ?_⟩, below2 hB2 hb3⟩
        rw [← HE.out]; rfl

end Go.Proofs.YtchnbnmajagpjaaGreatDoor

namespace Go.Proofs.YtchnbnmajagpjaaGreatDoor
open Go.RowKit Go.Shelf

theorem put_fit {xs : List (List UInt8)} {e : Ending} (h : PutIs xs e) (hf : Fit xs) : e = .returned (.tuple #[.string (txt (lineOf xs)), .int .i64 0]) := by
  rcases h with ⟨_, h⟩ | ⟨h, _⟩ | ⟨_, h, _⟩
  · exact h
  · subst h; exact absurd hf.1 (by decide)
  · exact absurd hf h
theorem put_one (x : ByteArray) (hx : x.size ≤ 1000) (w : World) : Calls Tryz.prog 47 #[.slice (some ⟨w.heap.size, 0, none⟩) 1 1] (w.alloc (.cells #[.string x] 9)) fun e w' => e = .returned (.tuple #[.string (txt (lineOf [x.data.toList])), .int .i64 0]) ∧ Below w.heap.size w w' := by
  have hr := built_readsO w [x]
  refine (put_any _ [x] (w.alloc (.cells #[.string x] 9)) (by rw [World.size_alloc]; exact hr) (by show 1 ≤ maxLen; decide) (by intro y hy; simp at hy; subst hy; omega)).mono fun e w' h => ⟨?_, ?_⟩
  · have hq := (quote_len x.data.toList).2
    rw [size_list] at hq
    exact put_fit h.1 ⟨by simp, by simp, by simp [bodyOf]; omega⟩
  · have := h.2
    rw [World.size_alloc] at this
    exact ((Below.refl _ w).alloc (Nat.le_refl _) _).trans (this.mono (by omega))
theorem built_readsLL (W : World) (x : ByteArray) : ReadsLL ((W.alloc (.cells #[.string x] 9)).alloc (.cells #[.slice (some ⟨W.heap.size, 0, none⟩) 1 1] 39)) (W.heap.size + 2) (.slice (some ⟨W.heap.size + 1, 0, none⟩) 1 1) [[x]] := by
  refine ⟨some ⟨W.heap.size + 1, 0, none⟩, 1, rfl, fun i xs hi => ?_⟩
  have hi0 : i = 0 := by
    have := (List.getElem?_eq_some_iff.1 hi).1
    simp at this; exact this
  subst hi0
  cases hi
  have e1 : ((W.alloc (.cells #[.string x] 9)).alloc (.cells #[.slice (some ⟨W.heap.size, 0, none⟩) 1 1] 39)).heap[W.heap.size + 1]? = some (.cells #[.slice (some ⟨W.heap.size, 0, none⟩) 1 1] 39 (0, 0)) := by
    have := World.alloc_heap_new (W.alloc (.cells #[.string x] 9)) (.cells #[.slice (some ⟨W.heap.size, 0, none⟩) 1 1] 39)
    rwa [World.size_alloc] at this
  refine ⟨W.heap.size + 1, 0, .slice (some ⟨W.heap.size, 0, none⟩) 1 1, rfl, by omega, Nat.le_refl _, cell_at e1 rfl, ?_⟩
  exact (built_readsO W [x]).below ((Below.refl _ _).alloc (by simp) _) (by omega)

end Go.Proofs.YtchnbnmajagpjaaGreatDoor

namespace Go.Proofs.YtchnbnmajagpjaaGreatDoor
open Go.RowKit Go.Shelf

/-- What Put answers, as one text and one number. -/
theorem put_det (xs : List (List UInt8)) : ∃ (t : ByteArray) (c : Int), (∀ e, PutIs xs e → e = .returned (.tuple #[.string t, .int .i64 c])) ∧ (Fit xs → t = txt (lineOf xs) ∧ c = 0) ∧ (¬ Fit xs → t = ⟨#[]⟩ ∧ (xs = [] → c = 1) ∧ (xs ≠ [] → c = 3)) := by
  by_cases hf : Fit xs
  · exact ⟨_, _, fun e h => put_fit h hf, fun _ => ⟨rfl, rfl⟩, fun h => absurd hf h⟩
  · by_cases h0 : xs = []
    · refine ⟨⟨#[]⟩, 1, fun e h => ?_, fun h => absurd h hf, fun _ => ⟨rfl, fun _ => rfl, fun h => absurd h0 h⟩⟩
      rcases h with ⟨h, _⟩ | ⟨_, h⟩ | ⟨h, _⟩
      · exact absurd h hf
      · exact h
      · exact absurd h0 h
    · refine ⟨⟨#[]⟩, 3, fun e h => ?_, fun h => absurd h hf, fun _ => ⟨rfl, fun h => absurd h h0, fun _ => rfl⟩⟩
      rcases h with ⟨h, _⟩ | ⟨h, _⟩ | ⟨_, _, h⟩
      · exact absurd h hf
      · exact absurd h h0
      · exact h


end Go.Proofs.YtchnbnmajagpjaaGreatDoor

namespace Go.Proofs.YtchnbnmajagpjaaGreatDoor
open Go.RowKit Go.Shelf


theorem map_raw (xs : List ByteArray) : (rawOf xs).map txt = xs := by
  unfold rawOf
  rw [List.map_map]
  conv => rhs; rw [← List.map_id xs]
  exact List.map_congr_left fun x _ => by simp [txt_toList]
/-- The values read as the lists, in the world in which the call began. -/
def EachReads (w : World) (us : List Value) (fs : List (List ByteArray)) : Prop := us.length = fs.length ∧ ∀ (i : Nat) (l : List ByteArray), fs[i]? = some l → ∃ u, us[i]? = some u ∧ ReadsO w w.heap.size u l
theorem EachReads.snoc {w : World} {us : List Value} {fs : List (List ByteArray)} {u : Value} {l : List ByteArray} (h : EachReads w us fs) (hu : ReadsO w w.heap.size u l) : EachReads w (us ++ [u]) (fs ++ [l]) := by
  refine ⟨by rw [List.length_append, List.length_append, h.1]; rfl, fun i z hi => ?_⟩
  rcases Nat.lt_or_ge i fs.length with hlt | hge
  · rw [List.getElem?_append_left hlt] at hi
    obtain ⟨u', h1, h2⟩ := h.2 i z hi
    exact ⟨u', by rw [List.getElem?_append_left (by rw [h.1]; exact hlt)]; exact h1, h2⟩
  · rw [List.getElem?_append_right hge] at hi
    have hi0 : i - fs.length = 0 := by
      have := (List.getElem?_eq_some_iff.1 hi).1
      simp at this; omega
    rw [hi0] at hi
    cases hi
    exact ⟨u, by rw [List.getElem?_append_right (by rw [h.1]; exact hge), h.1, hi0]; rfl, hu⟩
/-- The first m of the row read as the first m of the lists. -/
theorem rows_read {w W : World} {base : Nat} {o : Option Addr} {n c : Nat} {us : List Value} {fs : List (List ByteArray)} (h : W.ownsRow base 39 1 (.slice o n c) fs.length us) (he : EachReads w us fs) (hB : Below w.heap.size w W) (m : Nat) (hm : m ≤ fs.length) :
    ReadsLL W W.heap.size (.slice o m c) (fs.take m) := by
  have hml : (fs.take m).length = m := by rw [List.length_take]; omega
  refine ⟨o, c, by rw [hml], fun i l hi => ?_⟩
  have him : i < m := by have := (List.getElem?_eq_some_iff.1 hi).1; omega
  rw [List.getElem?_take_of_lt him] at hi
  obtain ⟨u, h1, h2⟩ := he.2 i l hi
  rcases h.2 with ⟨hv, h0⟩ | ⟨g, cap, cur, hv, hb, hg, hk, hmx, hs, ht⟩
  · omega
  · cases hv
    rw [← ht, List.getElem?_take_of_lt (by omega)] at h1
    exact ⟨g, 0, u, rfl, (Array.getElem?_eq_some_iff.1 hg).1, by omega, cell_at hg (by rw [Nat.zero_add, ← Array.getElem?_toList]; exact h1), h2.below hB hB.size⟩

/-- What is scanned of lines, and of what is no line behind them. -/
theorem scan_all (fs : List (List ByteArray)) (tail : List UInt8) (hf : ∀ l ∈ fs, Fit (rawOf l)) (ht : ∀ xs r, takeOf tail ≠ .ok xs r) :
    (scanOf (linesOfAll (fs.map rawOf) ++ tail)).map (fun x => x.1.map txt) = fs ∧ endI (linesOfAll (fs.map rawOf) ++ tail) (scanOf (linesOfAll (fs.map rawOf) ++ tail)) = ((linesOfAll (fs.map rawOf)).length : Int) := by
  obtain ⟨h1, h2⟩ := scan_lines (fs.map rawOf) tail (by intro x hx; obtain ⟨l, hl, rfl⟩ := List.mem_map.1 hx; exact hf l hl) ht
  generalize scanOf (linesOfAll (fs.map rawOf) ++ tail) = sc at h1 h2
  constructor
  · have : sc.map (fun x => x.1.map txt) = (sc.map (·.1)).map (fun y => y.map txt) := by rw [List.map_map]; rfl
    rw [this, h1, List.map_map]
    conv => rhs; rw [← List.map_id fs]
    exact List.map_congr_left fun l _ => map_raw l
  · unfold endI
    cases hl : sc.getLast? with
    | none =>
      have : sc = [] := List.getLast?_eq_none_iff.1 hl
      subst this
      have h3 : fs = [] := by simpa using h1.symm
      subst h3
      simp [linesOfAll]
    | some x =>
      have := h2 x hl
      simp only [this, List.length_append]
      omega
theorem lines_snoc (fs : List (List ByteArray)) (l : List ByteArray) : linesOfAll ((fs ++ [l]).map rawOf) = linesOfAll (fs.map rawOf) ++ lineOf (rawOf l) := by simp [linesOfAll]
theorem fit_snoc {fs : List (List ByteArray)} {l : List ByteArray} (h : ∀ x ∈ fs, Fit (rawOf x)) (hl : Fit (rawOf l)) : ∀ x ∈ fs ++ [l], Fit (rawOf x) := by
  intro x hx
  rcases List.mem_append.1 hx with hx | hx
  · exact h x hx
  · simp at hx; subst hx; exact hl

end Go.Proofs.YtchnbnmajagpjaaGreatDoor

namespace Go.Proofs.YtchnbnmajagpjaaGreatDoor
open Go.RowKit Go.Shelf


theorem err_code0 {l : List UInt8} {c : Int} (h : TakeErr l c) : (c != 0) = true ∧ (∀ xs r, takeOf l ≠ .ok xs r) := by
  rcases h with ⟨h, rfl⟩ | ⟨h, rfl⟩ | ⟨h, rfl⟩
  · exact ⟨by decide, fun xs r e => by rw [h] at e; cases e⟩
  · exact ⟨by decide, fun xs r e => by rw [h] at e; cases e⟩
  · exact ⟨by decide, fun xs r e => by rw [h] at e; cases e⟩
theorem err_det {l : List UInt8} {c c' : Int} (h : TakeErr l c) (h' : TakeErr l c') : c = c' := by
  rcases h with ⟨h, rfl⟩ | ⟨h, rfl⟩ | ⟨h, rfl⟩ <;> rcases h' with ⟨h', rfl⟩ | ⟨h', rfl⟩ | ⟨h', rfl⟩ <;> first | rfl | (rw [h] at h'; cases h')
/-- What Take answers, as a list, one text and one number. -/
theorem take_det (l : List UInt8) : ∃ (xs : List ByteArray) (t : ByteArray) (c : Int), (∀ w e w', TakePost l w e w' → ∃ o cp, e = .returned (.tuple #[.slice o xs.length cp, .string t, .int .i64 c]) ∧ ReadsO w' w'.heap.size (.slice o xs.length cp) xs ∧ Below w.heap.size w w') ∧
    ((∃ ys r, takeOf l = .ok ys r ∧ xs = ys.map txt ∧ t = txt r ∧ c = 0) ∨ (TakeErr l c ∧ xs = [] ∧ t = ⟨#[]⟩)) := by
  have herr : ∀ c, TakeErr l c → ∃ (xs : List ByteArray) (t : ByteArray) (c : Int), (∀ w e w', TakePost l w e w' → ∃ o cp, e = .returned (.tuple #[.slice o xs.length cp, .string t, .int .i64 c]) ∧ ReadsO w' w'.heap.size (.slice o xs.length cp) xs ∧ Below w.heap.size w w') ∧
      ((∃ ys r, takeOf l = .ok ys r ∧ xs = ys.map txt ∧ t = txt r ∧ c = 0) ∨ (TakeErr l c ∧ xs = [] ∧ t = ⟨#[]⟩)) := by
    intro c hc
    refine ⟨[], ⟨#[]⟩, c, fun w e w' h => ?_, .inr ⟨hc, rfl, rfl⟩⟩
    obtain ⟨hb, (⟨c', hc', rfl⟩ | ⟨xs, r, v, ht, _⟩)⟩ := h
    · rw [err_det hc hc']
      exact ⟨none, 0, rfl, ⟨none, 0, rfl, by simp⟩, hb⟩
    · exact absurd ht ((err_code0 hc).2 xs r)
  rcases take_kinds (takeOf l) with ht | ht | ht | ⟨ys, r, ht⟩
  · exact herr 14 (.inl ⟨ht, rfl⟩)
  · exact herr 2 (.inr (.inl ⟨ht, rfl⟩))
  · exact herr 13 (.inr (.inr ⟨ht, rfl⟩))
  · refine ⟨ys.map txt, txt r, 0, fun w e w' h => ?_, .inl ⟨ys, r, ht, rfl, rfl, rfl⟩⟩
    obtain ⟨hb, (⟨c', hc', rfl⟩ | ⟨xs, r', v, ht', rfl, hown⟩)⟩ := h
    · exact absurd ht ((err_code0 hc').2 ys r)
    · rw [ht] at ht'
      cases ht'
      obtain ⟨o, cp, rfl⟩ := ownsRow_shape hown
      refine ⟨o, cp, by rw [List.length_map], ?_, hb⟩
      have := ReadsO.of_owns (xs := ys.map txt) (by rw [List.length_map]; exact hown)
      rw [List.length_map]; exact this

end Go.Proofs.YtchnbnmajagpjaaGreatDoor

namespace Go.Proofs.YtchnbnmajagpjaaGreatDoor
open Go.ChangeShapes Go.WideShapes Go.ChangeAt Go.RowKit

theorem cells_list : Tryz.prog.cellsOf 39 = 1 := by kernel_rfl
theorem cell_of_one {W : World} {x : Addr} {cs : List Value} (h : W.cells? 0 x 1 = some cs) : ∃ c, cs = [c] ∧ W.cell? x = some c := by
  obtain ⟨c, rfl⟩ : ∃ c, cs = [c] := by
    unfold World.cells? at h
    split at h
    · simp only [List.range_one, List.mapM_cons, List.mapM_nil, Option.bind_eq_bind, Option.pure_def] at h
      cases hc : W.cell? (x.add 0) with
      | none => rw [hc] at h; simp at h
      | some c => rw [hc] at h; simp at h; exact ⟨c, h.symm⟩
    · cases h
  exact ⟨c, rfl, cell_of_cells?_one h⟩

/-- What one row reads as. -/
def RowIs (W : World) (B : Nat) (a : Addr) (i : Nat) (xs : List ByteArray) : Prop := ∃ u, W.cell? (a.add i) = some u ∧ ReadsO W B u xs ∧ xs.length ≤ maxLen ∧ ∀ x ∈ xs, x.size ≤ maxLen

set_option maxRecDepth 100000 in
theorem open_lists {H : Type} {enc : TypeId × Value → H} {W : World} {base : Nat} {v : Value} {d : DataW H} {ps : List MemPlace}
    (hv : Value.okWide Tryz.prog W .any base 63 v) (h : DataW.Trod enc Tryz.prog W 0 (fun _ => true) true 63 v d ps) (hlt : ∀ x ∈ ps, x.block < W.heap.size) :
    (∃ xss : List (List ByteArray), xss.length ≤ maxLen ∧ (∀ l ∈ xss, l.length ≤ maxLen ∧ ∀ x ∈ l, x.size ≤ maxLen) ∧ ReadsLL W W.heap.size v xss) ∧
    ∀ W', Below W.heap.size W W' → DataW.Trod enc Tryz.prog W' 0 (fun b => decide (b < W.heap.size)) true 63 v d ps := by
  refine ⟨?_, fun W' hb => Below.trod laid_out (by kernel_rfl) (of_decide_eq_true (by kernel_rfl)) h hb hlt⟩
  obtain ⟨a0, len, cap, rfl⟩ := okWide_slice Tryz.underlying63 hv
  obtain ⟨fuel, hf⟩ := h
  rcases DataW.trod_slice Tryz.underlying63 hf with ⟨hcs, hx⟩ | ⟨a, len', cap', elems, rest, n, _, hcs, hx, _, hl, hm, hlen, hel, hsp, _⟩
  · simp [Value.cells] at hcs
    obtain ⟨rfl, rfl, rfl⟩ := hcs
    exact ⟨[], by simp, by simp, none, 0, rfl, by simp⟩
  · simp [Value.cells] at hcs
    obtain ⟨rfl, rfl, rfl⟩ := hcs
    simp only [Prod.mk.injEq] at hx
    obtain ⟨rfl, rfl⟩ := hx
    have hrow : ∀ j, j < (elems.length + rest.length) * Tryz.prog.cellsOf 39 → a.block < W.heap.size := by
      intro j hj
      exact hlt (.cell a.block (a.off + j)) (List.mem_append_left _ (MemPlace.mem_row.2 ⟨j, hj, rfl⟩))
    have each : ∀ i, i < len → ∃ xs, RowIs W W.heap.size a i xs := by
      intro i hi
      have hy := hel i hi
      have hie : i < elems.length := by omega
      rw [List.getElem?_eq_getElem hie, cells_list, Nat.mul_one, Option.bind_eq_some_iff] at hy
      obtain ⟨cs, hc1, hc2⟩ := hy
      obtain ⟨u, rfl, hu⟩ := cell_of_one hc1
      have hpl : ∀ p ∈ elems[i].2, p.block < W.heap.size := fun p hp => hlt p (List.mem_append_right _ (List.mem_flatMap.2 ⟨elems[i], by simp, hp⟩))
      rcases open_strings Tryz.underlying39 Tryz.underlying9 cells_string hc2 with ⟨hcs, _⟩ | ⟨a', l', c', ss, hcs, _, hl', hm', hz, hxx, hcell, hws⟩
      · cases hcs
        exact ⟨[], _, hu, ⟨none, 0, rfl, by simp⟩, by simp, by simp⟩
      · cases hcs
        simp only [if_true] at hz
        have hlen' : (ss.take l').length = l' := by rw [List.length_take]; omega
        refine ⟨ss.take l', _, hu, ⟨some a', c', by rw [hlen'], fun k x hk => ?_⟩, by omega, fun x hx => hws x (List.mem_of_mem_take hx)⟩
        have hk1 : k < l' := by have := (List.getElem?_eq_some_iff.1 hk).1; omega
        have hk2 : k < ss.length := by omega
        rw [List.getElem?_take_of_lt hk1, List.getElem?_eq_getElem hk2] at hk
        have hc := hcell k hk2
        obtain ⟨b, off, spot⟩ := a'
        have hspot : spot = none := by simpa [Addr.add] using World.cell?_spot (hcell 0 (by omega))
        subst hspot
        refine ⟨b, off, rfl, hpl (.cell b (off + k)) ?_, by omega, ?_⟩
        · rw [hxx]; exact MemPlace.mem_row.2 ⟨k, hk2, rfl⟩
        · rw [add_plain] at hc
          rw [hc, ← Option.some.inj hk]
          simp [List.getD, List.getElem?_eq_getElem hk2]
    obtain ⟨f, hf⟩ : ∃ f : Nat → List ByteArray, ∀ i, i < len → RowIs W W.heap.size a i (f i) := by
      classical
      exact ⟨fun i => if h : i < len then Classical.choose (each i h) else [], fun i hi => by simp only [hi, dif_pos]; exact Classical.choose_spec (each i hi)⟩
    refine ⟨(List.range len).map f, by simp; omega, ?_, some a, cap, by simp, ?_⟩
    · intro l hl2
      obtain ⟨i, hi, rfl⟩ := List.mem_map.1 hl2
      obtain ⟨u, _, _, h3, h4⟩ := hf i (List.mem_range.1 hi)
      exact ⟨h3, h4⟩
    · intro i xs hi
      rw [List.getElem?_map] at hi
      have hil : i < len := by
        cases hr : (List.range len)[i]? with
        | none => rw [hr] at hi; cases hi
        | some j => have := (List.getElem?_eq_some_iff.1 hr).1; simpa using this
      rw [List.getElem?_range hil] at hi
      cases hi
      obtain ⟨u, h1, h2, _, _⟩ := hf i hil
      obtain ⟨b, off, spot⟩ := a
      obtain ⟨u0, h0, _⟩ := hf 0 (by omega)
      have hspot : spot = none := by simpa [Addr.add] using World.cell?_spot h0
      subst hspot
      rw [add_plain] at h1
      refine ⟨b, off, u, rfl, hrow 0 (by rw [cells_list, hlen]; omega), by simp; omega, h1, h2⟩

end Go.Proofs.YtchnbnmajagpjaaGreatDoor
