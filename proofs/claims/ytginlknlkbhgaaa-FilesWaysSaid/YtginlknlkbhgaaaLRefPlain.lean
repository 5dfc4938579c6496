/-
  What the document's own functions digit and plain answer.
-/
import Derived.IntWalk
import Derived.Test.YtginlknlkbhgaaaLLeaf
namespace Go.Proofs.Ytginlknlkbhgaaa
open Go.RowKit Go.Shelf

set_option maxHeartbeats 400000 in
theorem digit_any (c : UInt8) (w : World) : Calls Try.prog 82 #[.int .u8 (c.toNat : Int)] w fun e w' => e = .returned (.bool (digB c)) ∧ w = w' := by
  by_cases h1 : 48 ≤ c.toNat <;> by_cases h2 : c.toNat ≤ 57
  all_goals first
    | (exfalso; omega)
    | (go_enter Try.func82, Try.ntmps82
       go_wp2
       go_ret
       exact ⟨ret_bool (by rw [Bool.eq_iff_iff]; simp [digB]; omega), rfl⟩)
theorem digit_t (c : UInt8) (w : World) (h : digB c = true) : Calls Try.prog 82 #[.int .u8 (c.toNat : Int)] w fun e w' => e = .returned (.bool true) ∧ w = w' := by
  have := digit_any c w; rwa [h] at this
theorem digit_f (c : UInt8) (w : World) (h : digB c = false) : Calls Try.prog 82 #[.int .u8 (c.toNat : Int)] w fun e w' => e = .returned (.bool false) ∧ w = w' := by
  have := digit_any c w; rwa [h] at this
set_option maxHeartbeats 1000000 in
theorem refPlain_letter (c : UInt8) (w : World) (h : letB c = true) : Calls Try.prog 71 #[.int .u8 (c.toNat : Int)] w fun e w' => e = .returned (.bool true) ∧ w = w' := by
  have hl : 65 ≤ c.toNat ∧ c.toNat ≤ 90 ∨ 97 ≤ c.toNat ∧ c.toNat ≤ 122 := by simpa [letB] using h
  clear h
  rcases hl with ⟨h1, h2⟩ | ⟨h1, h2⟩
  · go_enter Try.func71, Try.ntmps71
    go_wp2
    go_ret
    exact ⟨rfl, rfl⟩
  · have h3 : 65 ≤ c.toNat := by omega
    have h4 : ¬ c.toNat ≤ 90 := by omega
    go_enter Try.func71, Try.ntmps71
    go_wp2
    go_ret
    exact ⟨rfl, rfl⟩
set_option maxHeartbeats 2000000 in
theorem refPlain_other (c : UInt8) (w : World) (h : letB c = false) : Calls Try.prog 71 #[.int .u8 (c.toNat : Int)] w fun e w' => e = .returned (.bool (plainB c)) ∧ w = w' := by
  have hl : ¬ (65 ≤ c.toNat ∧ c.toNat ≤ 90 ∨ 97 ≤ c.toNat ∧ c.toNat ≤ 122) := by simpa [letB] using h
  have HL := Lib.hid h; clear h
  have HQ := Lib.hid hl
  have tests : (decide (65 ≤ (c.toNat : Int)) = false ∧ decide (97 ≤ (c.toNat : Int)) = false) ∨ (decide (65 ≤ (c.toNat : Int)) = true ∧ decide ((c.toNat : Int) ≤ 90) = false ∧ decide (97 ≤ (c.toNat : Int)) = false) ∨ (decide (65 ≤ (c.toNat : Int)) = true ∧ decide ((c.toNat : Int) ≤ 90) = false ∧ decide (97 ≤ (c.toNat : Int)) = true ∧ decide ((c.toNat : Int) ≤ 122) = false) := by
    simp only [decide_eq_true_eq, decide_eq_false_iff_not]; omega
  clear hl
  cases hd : digB c with
  | true =>
    have HD := Lib.hid hd; clear hd
    rcases tests with ⟨h1, h2⟩ | ⟨h1, h2, h3⟩ | ⟨h1, h2, h3, h4⟩
    all_goals
      go_enter Try.func71, Try.ntmps71
      go_wp2_with (go_at_call 82; refine (digit_t _ _ HD.out).mono ?_; rintro e w' ⟨rfl, rfl⟩)
      go_ret
      exact ⟨ret_bool (by simp [plainB, HD.out]), rfl⟩
  | false =>
    have HD := Lib.hid hd; clear hd
    by_cases g0 : c.toNat = 95
    · have e95 : ((c.toNat : Int) == 95) = true := by simp; omega
      have HG := Lib.hid g0; clear g0
      rcases tests with ⟨h1, h2⟩ | ⟨h1, h2, h3⟩ | ⟨h1, h2, h3, h4⟩
      all_goals
        go_enter Try.func71, Try.ntmps71
        go_wp2_with (go_at_call 82; refine (digit_f _ _ HD.out).mono ?_; rintro e w' ⟨rfl, rfl⟩)
        go_ret
        exact ⟨ret_bool (by simp [plainB, HG.out]), rfl⟩
    by_cases g1 : c.toNat = 45
    · have e95 : ((c.toNat : Int) == 95) = false := by simp; omega
      have e45 : ((c.toNat : Int) == 45) = true := by simp; omega
      have HG := Lib.hid g1; clear g0 g1
      rcases tests with ⟨h1, h2⟩ | ⟨h1, h2, h3⟩ | ⟨h1, h2, h3, h4⟩
      all_goals
        go_enter Try.func71, Try.ntmps71
        go_wp2_with (go_at_call 82; refine (digit_f _ _ HD.out).mono ?_; rintro e w' ⟨rfl, rfl⟩)
        go_ret
        exact ⟨ret_bool (by simp [plainB, HG.out]), rfl⟩
    by_cases g2 : c.toNat = 46
    · have e95 : ((c.toNat : Int) == 95) = false := by simp; omega
      have e45 : ((c.toNat : Int) == 45) = false := by simp; omega
      have e46 : ((c.toNat : Int) == 46) = true := by simp; omega
      have HG := Lib.hid g2; clear g0 g1 g2
      rcases tests with ⟨h1, h2⟩ | ⟨h1, h2, h3⟩ | ⟨h1, h2, h3, h4⟩
      all_goals
        go_enter Try.func71, Try.ntmps71
        go_wp2_with (go_at_call 82; refine (digit_f _ _ HD.out).mono ?_; rintro e w' ⟨rfl, rfl⟩)
        go_ret
        exact ⟨ret_bool (by simp [plainB, HG.out]), rfl⟩
    by_cases g3 : c.toNat = 47
    · have e95 : ((c.toNat : Int) == 95) = false := by simp; omega
      have e45 : ((c.toNat : Int) == 45) = false := by simp; omega
      have e46 : ((c.toNat : Int) == 46) = false := by simp; omega
      have e47 : ((c.toNat : Int) == 47) = true := by simp; omega
      have HG := Lib.hid g3; clear g0 g1 g2 g3
      rcases tests with ⟨h1, h2⟩ | ⟨h1, h2, h3⟩ | ⟨h1, h2, h3, h4⟩
      all_goals
        go_enter Try.func71, Try.ntmps71
        go_wp2_with (go_at_call 82; refine (digit_f _ _ HD.out).mono ?_; rintro e w' ⟨rfl, rfl⟩)
        go_ret
        exact ⟨ret_bool (by simp [plainB, HG.out]), rfl⟩
    have e95 : ((c.toNat : Int) == 95) = false := by simp; omega
    have e45 : ((c.toNat : Int) == 45) = false := by simp; omega
    have e46 : ((c.toNat : Int) == 46) = false := by simp; omega
    have e47 : ((c.toNat : Int) == 47) = false := by simp; omega
    have G0 := Lib.hid g0
    have G1 := Lib.hid g1
    have G2 := Lib.hid g2
    have G3 := Lib.hid g3
    clear g0 g1 g2 g3
    rcases tests with ⟨h1, h2⟩ | ⟨h1, h2, h3⟩ | ⟨h1, h2, h3, h4⟩
    all_goals
      go_enter Try.func71, Try.ntmps71
      go_wp2_with (go_at_call 82; refine (digit_f _ _ HD.out).mono ?_; rintro e w' ⟨rfl, rfl⟩)
      go_ret
      exact ⟨ret_bool (by simp [plainB, HL.out, HD.out, G0.out, G1.out, G2.out, G3.out]; exact nat_beq c.toNat 43), rfl⟩
theorem refPlain_any (c : UInt8) (w : World) : Calls Try.prog 71 #[.int .u8 (c.toNat : Int)] w fun e w' => e = .returned (.bool (plainB c)) ∧ w = w' := by
  cases h : letB c with
  | false => exact refPlain_other c w h
  | true =>
    have e : plainB c = true := by simp [plainB, h]
    rw [e]; exact refPlain_letter c w h
theorem refPlain_t (c : UInt8) (w : World) (h : plainB c = true) : Calls Try.prog 71 #[.int .u8 (c.toNat : Int)] w fun e w' => e = .returned (.bool true) ∧ w = w' := by
  have := refPlain_any c w; rwa [h] at this
theorem refPlain_f (c : UInt8) (w : World) (h : plainB c = false) : Calls Try.prog 71 #[.int .u8 (c.toNat : Int)] w fun e w' => e = .returned (.bool false) ∧ w = w' := by
  have := refPlain_any c w; rwa [h] at this

end Go.Proofs.Ytginlknlkbhgaaa
