/-
  What strings.Cut at a line feed, strings.Trim of digits, CutSuffix of a blank, and two functions of line's own answer.
-/
import Derived.Shelf.Strings.SlTrimAscii
import Derived.Lib.IndexBytes
import Derived.Lib.IndexLaws
import Derived.Deep.QuietTactic
import Derived.BigQuiet
import Derived.Test.YtllkibdpjpdbbaaDoorLMath
import Derived.Test.YtllkibdpjpdbbaaDoorLSRef
namespace Go.Proofs.YtllkibdpjpdbbaaDoor
open Go.RowKit Go.Shelf
attribute [local go_sem] Oper.semAt_some

def lays160_ren : Go.Shelf.Ren := ⟨fun | 160 => 43 | 232 => 56 | 231 => 55 | 227 => 57 | 234 => 59 | 233 => 58 | 236 => 61 | 235 => 60 | 228 => 72 | 271 => 75 | 151 => 74 | 197 => 73 | 120 => 84 | 152 => 83 | 260 => 82 | 137 => 79 | 119 => 85 | 224 => 70 | 225 => 69 | 217 => 68 | 266 => 80 | n => n, fun | 9 => 9 | 4 => 4 | 3 => 3 | 5 => 5 | 117 => 85 | 116 => 84 | 0 => 0 | 124 => 88 | 21 => 21 | 105 => 99 | 46 => 67 | 119 => 106 | 139 => 109 | 138 => 108 | n => n, fun | 3 => 1 | 4 => 2 | n => n⟩
theorem lays160 : Go.Proofs.Lays.n160 Tryd.prog lays160_ren := {
  mixed := by kernel_rfl
  f119 := Tryd.func85.trans (congrArg some (by kernel_rfl))
  f120 := Tryd.func84.trans (congrArg some (by kernel_rfl))
  f137 := Tryd.func79.trans (congrArg some (by kernel_rfl))
  f151 := Tryd.func74.trans (congrArg some (by kernel_rfl))
  f152 := Tryd.func83.trans (congrArg some (by kernel_rfl))
  f160 := Tryd.func43.trans (congrArg some (by kernel_rfl))
  f197 := Tryd.func73.trans (congrArg some (by kernel_rfl))
  f217 := Tryd.func68.trans (congrArg some (by kernel_rfl))
  f224 := Tryd.func70.trans (congrArg some (by kernel_rfl))
  f225 := Tryd.func69.trans (congrArg some (by kernel_rfl))
  f227 := Tryd.func57.trans (congrArg some (by kernel_rfl))
  f228 := Tryd.func72.trans (congrArg some (by kernel_rfl))
  f231 := Tryd.func55.trans (congrArg some (by kernel_rfl))
  f232 := Tryd.func56.trans (congrArg some (by kernel_rfl))
  f233 := Tryd.func58.trans (congrArg some (by kernel_rfl))
  f234 := Tryd.func59.trans (congrArg some (by kernel_rfl))
  f235 := Tryd.func60.trans (congrArg some (by kernel_rfl))
  f236 := Tryd.func61.trans (congrArg some (by kernel_rfl))
  f260 := Tryd.func82.trans (congrArg some (by kernel_rfl))
  f266 := Tryd.func80.trans (congrArg some (by kernel_rfl))
  f271 := Tryd.func75.trans (congrArg some (by kernel_rfl))
  t0 := Tryd.underlying0
  a0 := Tryd.isAgg0
  z0 := Tryd.sizeOf0
  v0 := Tryd.zeroValue0
  t3 := Tryd.underlying3
  a3 := Tryd.isAgg3
  z3 := Tryd.sizeOf3
  v3 := Tryd.zeroValue3
  t4 := Tryd.underlying4
  a4 := Tryd.isAgg4
  z4 := Tryd.sizeOf4
  v4 := Tryd.zeroValue4
  t5 := Tryd.underlying5
  a5 := Tryd.isAgg5
  z5 := Tryd.sizeOf5
  v5 := Tryd.zeroValue5
  t9 := Tryd.underlying9
  a9 := Tryd.isAgg9
  z9 := Tryd.sizeOf9
  v9 := Tryd.zeroValue9
  t21 := Tryd.underlying21
  a21 := Tryd.isAgg21
  z21 := Tryd.sizeOf21
  v21 := Tryd.zeroValue21
  t46 := Tryd.underlying67
  a46 := Tryd.isAgg67
  z46 := Tryd.sizeOf67
  v46 := Tryd.zeroValue67
  t105 := Tryd.underlying99
  a105 := Tryd.isAgg99
  z105 := Tryd.sizeOf99
  v105 := Tryd.zeroValue99
  t116 := Tryd.underlying84
  a116 := Tryd.isAgg84
  z116 := Tryd.sizeOf84
  t117 := Tryd.underlying85
  a117 := Tryd.isAgg85
  z117 := Tryd.sizeOf85
  v117 := Tryd.zeroValue85
  t119 := Tryd.underlying106
  a119 := Tryd.isAgg106
  z119 := Tryd.sizeOf106
  t124 := Tryd.underlying88
  a124 := Tryd.isAgg88
  z124 := Tryd.sizeOf88
  v124 := Tryd.zeroValue88
  t138 := Tryd.underlying108
  a138 := Tryd.isAgg108
  z138 := Tryd.sizeOf108
  v138 := Tryd.zeroValue108
  t139 := Tryd.underlying109
  a139 := Tryd.isAgg109
  z139 := Tryd.sizeOf109
  v139 := Tryd.zeroValue109
  g3 := by kernel_rfl
  g4 := by kernel_rfl }


def hexDigits : List UInt8 := [48, 49, 50, 51, 52, 53, 54, 55, 56, 57, 97, 98, 99, 100, 101, 102]
theorem contains_hex (c : UInt8) : hexDigits.contains c = hexB c := by
  have main : ∀ n : Fin 256, hexDigits.contains (UInt8.ofNat n.1) = hexB (UInt8.ofNat n.1) := by decide +kernel
  have := main ⟨c.toNat, c.toNat_lt⟩
  simpa using this
theorem drop_all (p : UInt8 → Bool) (l : List UInt8) (h : l.dropWhile p = []) : ∀ c ∈ l, p c = true := by
  induction l with
  | nil => simp
  | cons x r ih =>
    rw [List.dropWhile_cons] at h
    split at h
    · rename_i hx
      intro c hc
      rcases List.mem_cons.1 hc with rfl | hc
      · exact hx
      · exact ih h c hc
    · cases h
theorem all_drop (p : UInt8 → Bool) (l : List UInt8) (h : ∀ c ∈ l, p c = true) : l.dropWhile p = [] := by
  induction l with
  | nil => rfl
  | cons x r ih => rw [List.dropWhile_cons, if_pos (h x (by simp)), ih (fun c hc => h c (by simp [hc]))]
theorem trim_hex (l : List UInt8) : Lib.trimS l hexDigits = [] ↔ l.all hexB = true := by
  have e : (fun c => hexDigits.contains c) = hexB := funext contains_hex
  unfold Lib.trimS Lib.trimLeftS Lib.trimRightS
  rw [e, List.all_eq_true]
  constructor
  · intro h c hc
    have h1 := drop_all _ _ h
    have h2 : c ∈ l.reverse.takeWhile hexB ++ l.reverse.dropWhile hexB := by rw [List.takeWhile_append_dropWhile]; simpa using hc
    rcases List.mem_append.1 h2 with h3 | h3
    · have : ∀ (l : List UInt8), c ∈ l.takeWhile hexB → hexB c = true := by
        intro l
        induction l with
        | nil => intro h; cases h
        | cons x r ih =>
          intro h
          rw [List.takeWhile_cons] at h
          split at h
          · rename_i hx
            rcases List.mem_cons.1 h with rfl | h
            · exact hx
            · exact ih h
          · cases h
      exact this _ h3
    · exact h1 c (by simpa using h3)
  · intro h
    rw [all_drop hexB l.reverse (fun c hc => h c (by simpa using hc))]
    rfl
theorem trim_any (s : ByteArray) (hs : s.size ≤ maxLen) (w : World) : Calls Tryd.prog 43 #[.string s, .string ⟨#[48, 49, 50, 51, 52, 53, 54, 55, 56, 57, 97, 98, 99, 100, 101, 102]⟩] w fun e w' => e = .returned (.string (txt (Lib.trimS s.data.toList hexDigits))) ∧ Below w.heap.size w w' :=
  Any.strings_Trim_laid lays160 (by kernel_rfl) s ⟨#[48, 49, 50, 51, 52, 53, 54, 55, 56, 57, 97, 98, 99, 100, 101, 102]⟩ w (by unfold maxLen at hs; omega) (by decide) (ascii_of_all (by decide))

/-- Where the first line feed stands. -/
theorem index_nl (l : List UInt8) : Lib.indexByte l 10 = if (headOf l).length = l.length then -1 else ((headOf l).length : Int) := by
  induction l with
  | nil => rfl
  | cons c r ih =>
    unfold Lib.indexByte
    by_cases hc : c = 10
    · subst hc
      have e : headOf (10 :: r) = [] := by unfold headOf; rw [List.takeWhile_cons]; rfl
      rw [e]; simp
    · have hn : nlB c = false := by
        simp only [nlB, decide_eq_false_iff_not]
        intro h; exact hc (UInt8.toNat_inj.1 (by rw [h]; rfl))
      have e : headOf (c :: r) = c :: headOf r := by unfold headOf; rw [List.takeWhile_cons, hn]; rfl
      have hb : (c == 10) = false := by simpa using hc
      rw [e, hb, ih]
      simp only [List.length_cons, Bool.false_eq_true, if_false, Nat.add_right_cancel_iff]
      split
      · simp
      · have : (((headOf r).length : Int) == -1) = false := by rw [beq_eq_false_iff_ne]; omega
        rw [this]; simp

theorem index_yes {s : ByteArray} (h : (headOf s.data.toList).length ≠ s.size) (w : World) : Calls Tryd.prog 54 #[.string s, .string ⟨#[10]⟩] w fun e w' => e = .returned (.int .i64 ((headOf s.data.toList).length : Int)) ∧ w' = w := by
  have := stringslite_Index_one s 10 w
  rwa [index_nl, if_neg (by rw [size_list]; exact h)] at this
theorem index_no {s : ByteArray} (h : (headOf s.data.toList).length = s.size) (w : World) : Calls Tryd.prog 54 #[.string s, .string ⟨#[10]⟩] w fun e w' => e = .returned (.int .i64 (-1)) ∧ w' = w := by
  have := stringslite_Index_one s 10 w
  rwa [index_nl, if_pos (by rw [size_list]; exact h)] at this

theorem head_take (l : List UInt8) : l.take (headOf l).length = headOf l := by
  have := List.takeWhile_prefix (fun c => !nlB c) (l := l)
  exact (List.prefix_iff_eq_take.1 this).symm

set_option maxRecDepth 100000 in
set_option maxHeartbeats 1000000 in
theorem cut_yes (s : ByteArray) (hs : s.size ≤ maxLen) (h : (headOf s.data.toList).length ≠ s.size) (w : World) :
    Calls Tryd.prog 29 #[.string s, .string ⟨#[10]⟩] w fun e w' => e = .returned (.tuple #[.string (txt (headOf s.data.toList)), .string (txt (s.data.toList.drop ((headOf s.data.toList).length + 1))), .bool true]) ∧ ∃ n, w' = w.drewN n := by
  unfold maxLen at hs
  have hl := head_le s.data.toList
  rw [size_list] at hl
  have HI := Lib.hid (index_yes h)
  have HA : Hid (s.extract 0 (headOf s.data.toList).length = txt (headOf s.data.toList)) := by
    show _ = _; rw [extract_txt, List.drop_zero, Nat.sub_zero, head_take]
  have HB : Hid (s.extract ((headOf s.data.toList).length + 1) s.size = txt (s.data.toList.drop ((headOf s.data.toList).length + 1))) := by
    show _ = _; rw [extract_txt, take_rest]
  generalize txt (s.data.toList.drop ((headOf s.data.toList).length + 1)) = b at HB ⊢
  generalize txt (headOf s.data.toList) = a at HA ⊢
  generalize hn : (headOf s.data.toList).length = n at hl HI HA HB h
  have h1 : n ≤ s.size := by omega
  have h2 : n + 1 ≤ s.size := by omega
  clear hn hl h
  have HL : Hid (∀ w, Calls Tryd.prog 42 #[.string s, .string ⟨#[10]⟩] w fun e w' => e = .returned (.tuple #[.string a, .string b, .bool true]) ∧ ∃ n, w' = w.drewN n) := by
    intro w
    go_enter Tryd.func42, Tryd.ntmps42
    go_wp2_with (go_at_call 54; refine (HI.out _).mono ?_; rintro e w' ⟨rfl, rfl⟩)
    go_quiet (fail)
    go_wp2
    go_ret3
    exact ⟨by rw [← HA.out, ← HB.out]; rfl, nq, rfl⟩
  clear HI HA HB
  go_enter Tryd.func29, Tryd.ntmps29
  go_wp2_with (go_at_call 42; refine (HL.out _).mono ?_; rintro e w' ⟨rfl, nd, rfl⟩)
  go_ret3
  exact ⟨rfl, nd, rfl⟩
set_option maxRecDepth 100000 in
set_option maxHeartbeats 1000000 in
theorem cut_no (s : ByteArray) (h : (headOf s.data.toList).length = s.size) (w : World) :
    Calls Tryd.prog 29 #[.string s, .string ⟨#[10]⟩] w fun e w' => e = .returned (.tuple #[.string s, .string ⟨#[]⟩, .bool false]) ∧ ∃ n, w' = w.drewN n := by
  have HI := Lib.hid (index_no h)
  clear h
  have HL : Hid (∀ w, Calls Tryd.prog 42 #[.string s, .string ⟨#[10]⟩] w fun e w' => e = .returned (.tuple #[.string s, .string ⟨#[]⟩, .bool false]) ∧ ∃ n, w' = w.drewN n) := by
    intro w
    go_enter Tryd.func42, Tryd.ntmps42
    go_wp2_with (go_at_call 54; refine (HI.out _).mono ?_; rintro e w' ⟨rfl, rfl⟩)
    go_ret3
    exact ⟨rfl, 0, rfl⟩
  clear HI
  go_enter Tryd.func29, Tryd.ntmps29
  go_wp2_with (go_at_call 42; refine (HL.out _).mono ?_; rintro e w' ⟨rfl, nd, rfl⟩)
  go_ret3
  exact ⟨rfl, nd, rfl⟩

theorem cuts_t {s p : ByteArray} (hs : s.size ≤ maxLen) (h : Lib.hasSuffix s.data.toList p.data.toList = true) (w : World) : Calls Tryd.prog 44 #[.string s, .string p] w fun e w' => e = .returned (.tuple #[.string (txt (s.data.toList.take (s.data.toList.length - p.data.toList.length))), .bool true]) ∧ w' = w := by
  have := strings_CutSuffix s p w (by unfold maxLen at hs; omega); unfold Lib.trimSuffix at this; rw [h] at this; exact this
theorem cuts_f {s p : ByteArray} (hs : s.size ≤ maxLen) (h : Lib.hasSuffix s.data.toList p.data.toList = false) (w : World) : Calls Tryd.prog 44 #[.string s, .string p] w fun e w' => e = .returned (.tuple #[.string s, .bool false]) ∧ w' = w := by
  have := strings_CutSuffix s p w (by unfold maxLen at hs; omega); unfold Lib.trimSuffix at this; rw [h] at this; exact this

set_option maxHeartbeats 400000 in
theorem seal_any (s : ByteArray) (hs : s.size ≤ maxLen) (w : World) : Calls Tryd.prog 25 #[.string s] w fun e w' => e = .returned (.string (txt (sealOf s.data.toList))) ∧ Below w.heap.size w w' := by
  have HO := Lib.hid (of_any s hs)
  have HX := Lib.hid (hex_any (addN 1 s.data.toList) (add_lt _ _))
  have HE : Hid (sealOf s.data.toList = hexN (addN 1 s.data.toList)) := rfl
  generalize addN 1 s.data.toList = k at *
  clear hs
  go_enter Tryd.func25, Tryd.ntmps25
  go_wp2_with fail
  refine (HO.out _).mono ?_
  rintro e w1 ⟨rfl, hb1⟩
  go_wp2_with fail
  refine (HX.out _).mono ?_
  rintro e w2 ⟨rfl, hb2⟩
  go_wp2_with fail
  go_ret
  exact ⟨by rw [HE.out]; rfl, below2 hb1 hb2⟩

/-- What cutSum answers: the body and its digits, or nothing and the error. -/
def BadHead (l : List UInt8) : Prop := l.length < 8 ∨ 13000 ≤ l.length ∨ (l.drop (l.length - 8)).all hexB = false
set_option maxRecDepth 100000 in
set_option maxHeartbeats 1000000 in
theorem cutSum_bad (s : ByteArray) (hs : s.size ≤ maxLen) (h : BadHead s.data.toList) (w : World) : Calls Tryd.prog 30 #[.string s] w fun e w' => e = .returned (.tuple #[.string ⟨#[]⟩, .string ⟨#[]⟩, .int .i64 2]) ∧ Below w.heap.size w w' := by
  have hm := hs
  unfold maxLen at hs
  unfold BadHead at h
  rw [size_list] at h
  by_cases h8 : s.size < 8
  · have e1 : decide ((s.size : Int) < 8) = true := by simp; omega
    clear h hm
    go_enter Tryd.func30, Tryd.ntmps30
    go_wp2_with fail
    go_ret3
    exact ⟨rfl, Below.refl _ _⟩
  have e1 : decide ((s.size : Int) < 8) = false := by simp; omega
  by_cases h13 : 13000 ≤ s.size
  · have e2 : decide (13000 ≤ (s.size : Int)) = true := by simp; omega
    clear h hm
    go_enter Tryd.func30, Tryd.ntmps30
    go_wp2_with fail
    go_ret3
    exact ⟨rfl, Below.refl _ _⟩
  have e2 : decide (13000 ≤ (s.size : Int)) = false := by simp; omega
  have hx : (s.data.toList.drop (s.size - 8)).all hexB = false := by
    rcases h with h | h | h
    · omega
    · omega
    · exact h
  have hT := trim_any (s.extract (s.size - 8) s.size) (by rw [ByteArray.size_extract]; unfold maxLen; omega)
  have hne : Lib.trimS (s.extract (s.size - 8) s.size).data.toList hexDigits ≠ [] := by
    intro e
    rw [trim_hex, Lib.extract_to_end, hx] at e; cases e
  have e3 : (txt (Lib.trimS (s.extract (s.size - 8) s.size).data.toList hexDigits)).toList.isEmpty = false := by
    rw [txt_toL]; simpa using hne
  have HT := Lib.hid hT
  generalize txt (Lib.trimS (s.extract (s.size - 8) s.size).data.toList hexDigits) = tr at HT e3
  clear h hx hne hT hm
  obtain ⟨n, hn⟩ : ∃ n, s.size = n + 8 := ⟨s.size - 8, by omega⟩
  rw [show s.size - 8 = n by omega] at HT
  have b3 : (s.size : Int) - 8 = (n : Int) := by omega
  have b4 : n ≤ s.size := by omega
  clear hn
  go_enter Tryd.func30, Tryd.ntmps30
  go_wp2_with fail
  go_quiet (fail)
  go_wp2_with fail
  refine (HT.out _).mono ?_
  rintro e w1 ⟨rfl, hb⟩
  go_wp2_with fail
  go_ret3
  exact ⟨rfl, (below_drewN (Below.refl _ _) nq).trans hb⟩

set_option maxRecDepth 100000 in
set_option maxHeartbeats 1000000 in
theorem cutSum_good (s : ByteArray) (h : ¬ BadHead s.data.toList) (w : World) : Calls Tryd.prog 30 #[.string s] w fun e w' => e = .returned (.tuple #[.string (txt (s.data.toList.take (s.data.toList.length - 8))), .string (txt (s.data.toList.drop (s.data.toList.length - 8))), .int .i64 0]) ∧ Below w.heap.size w w' := by
  unfold BadHead at h
  rw [size_list] at h ⊢
  have h8 : ¬ s.size < 8 := fun x => h (.inl x)
  have h13 : ¬ 13000 ≤ s.size := fun x => h (.inr (.inl x))
  have hx : (s.data.toList.drop (s.size - 8)).all hexB = true := by
    cases hx : (s.data.toList.drop (s.size - 8)).all hexB with
    | true => rfl
    | false => exact absurd (.inr (.inr hx)) h
  have e1 : decide ((s.size : Int) < 8) = false := by simp; omega
  have e2 : decide (13000 ≤ (s.size : Int)) = false := by simp; omega
  have hT := trim_any (s.extract (s.size - 8) s.size) (by rw [ByteArray.size_extract]; unfold maxLen; omega)
  rw [(trim_hex _).2 (by rw [Lib.extract_to_end]; exact hx)] at hT
  have HA : Hid (s.extract 0 (s.size - 8) = txt (s.data.toList.take (s.size - 8))) := by
    show _ = _; rw [extract_txt, List.drop_zero, Nat.sub_zero]
  have HB : Hid (s.extract (s.size - 8) s.size = txt (s.data.toList.drop (s.size - 8))) := by
    show _ = _; rw [extract_txt, take_rest]
  have HT := Lib.hid hT
  have e3 : (txt ([] : List UInt8)).toList.isEmpty = true := by rw [txt_toL]; rfl
  generalize txt ([] : List UInt8) = tr at HT e3
  clear h hx hT
  generalize txt (s.data.toList.take (s.size - 8)) = ta at HA ⊢
  generalize txt (s.data.toList.drop (s.size - 8)) = tb at HB ⊢
  obtain ⟨n, hn⟩ : ∃ n, s.size = n + 8 := ⟨s.size - 8, by omega⟩
  rw [show s.size - 8 = n by omega] at HT HA HB
  have b3 : (s.size : Int) - 8 = (n : Int) := by omega
  have b4 : n ≤ s.size := by omega
  clear hn
  go_enter Tryd.func30, Tryd.ntmps30
  go_wp2_with fail
  go_quiet (fail)
  go_wp2_with fail
  refine (HT.out _).mono ?_
  rintro e w1 ⟨rfl, hb⟩
  go_wp2_with fail
  go_ret3
  exact ⟨by rw [← HA.out, ← HB.out]; rfl, (below_drewN (Below.refl _ _) nq).trans hb⟩

end Go.Proofs.YtllkibdpjpdbbaaDoor
