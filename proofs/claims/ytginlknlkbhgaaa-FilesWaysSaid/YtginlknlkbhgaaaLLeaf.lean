/-
  What the small functions of package text answer, for every byte.
-/
import Derived.WalkKit
import Derived.Lib.Bytealg
import Derived.Lib.Hide
import Derived.Outline
import Derived.Test.YtginlknlkbhgaaaLBase
import Derived.Test.YtginlknlkbhgaaaProg
namespace Go.Proofs.Ytginlknlkbhgaaa
open Go.RowKit Go.Shelf

def digB (c : UInt8) : Bool := decide (48 ≤ c.toNat ∧ c.toNat ≤ 57)
def letB (c : UInt8) : Bool := decide (65 ≤ c.toNat ∧ c.toNat ≤ 90 ∨ 97 ≤ c.toNat ∧ c.toNat ≤ 122)
def plainB (c : UInt8) : Bool := letB c || digB c || decide (c.toNat = 95 ∨ c.toNat = 45 ∨ c.toNat = 46 ∨ c.toNat = 47 ∨ c.toNat = 43)
def blankB (c : UInt8) : Bool := decide (c.toNat = 32 ∨ c.toNat = 9)
def nlB (c : UInt8) : Bool := decide (c.toNat = 10)
def slashB (c : UInt8) : Bool := decide (c.toNat = 47)
theorem ret_bool {a b : Bool} (h : a = b) : Ending.returned (.bool a) = .returned (.bool b) := by rw [h]
theorem nat_beq (a b : Nat) : (((a : Nat) : Int) == (b : Int)) = decide (a = b) := by
  rw [Bool.eq_iff_iff]; simp; omega
set_option maxHeartbeats 400000 in
theorem isDigit_any (c : UInt8) (w : World) : Calls Try.prog 84 #[.int .u8 (c.toNat : Int)] w fun e w' => e = .returned (.bool (digB c)) ∧ w = w' := by
  by_cases h1 : 48 ≤ c.toNat <;> by_cases h2 : c.toNat ≤ 57
  all_goals first
    | (exfalso; omega)
    | (go_enter Try.func84, Try.ntmps84
       go_wp2
       go_ret
       exact ⟨ret_bool (by rw [Bool.eq_iff_iff]; simp [digB]; omega), rfl⟩)
set_option maxHeartbeats 400000 in
theorem isLetter_any (c : UInt8) (w : World) : Calls Try.prog 83 #[.int .u8 (c.toNat : Int)] w fun e w' => e = .returned (.bool (letB c)) ∧ w = w' := by
  by_cases h1 : 65 ≤ c.toNat <;> by_cases h2 : c.toNat ≤ 90 <;> by_cases h3 : 97 ≤ c.toNat <;> by_cases h4 : c.toNat ≤ 122
  all_goals first
    | (exfalso; omega)
    | (go_enter Try.func83, Try.ntmps83
       go_wp2
       go_ret
       exact ⟨ret_bool (by rw [Bool.eq_iff_iff]; simp [letB]; omega), rfl⟩)
theorem isLetter_t (c : UInt8) (w : World) (h : letB c = true) : Calls Try.prog 83 #[.int .u8 (c.toNat : Int)] w fun e w' => e = .returned (.bool true) ∧ w = w' := by
  have := isLetter_any c w; rwa [h] at this
theorem isLetter_f (c : UInt8) (w : World) (h : letB c = false) : Calls Try.prog 83 #[.int .u8 (c.toNat : Int)] w fun e w' => e = .returned (.bool false) ∧ w = w' := by
  have := isLetter_any c w; rwa [h] at this
theorem isDigit_t (c : UInt8) (w : World) (h : digB c = true) : Calls Try.prog 84 #[.int .u8 (c.toNat : Int)] w fun e w' => e = .returned (.bool true) ∧ w = w' := by
  have := isDigit_any c w; rwa [h] at this
theorem isDigit_f (c : UInt8) (w : World) (h : digB c = false) : Calls Try.prog 84 #[.int .u8 (c.toNat : Int)] w fun e w' => e = .returned (.bool false) ∧ w = w' := by
  have := isDigit_any c w; rwa [h] at this
set_option maxHeartbeats 1000000 in
theorem isPlain_any (c : UInt8) (w : World) : Calls Try.prog 74 #[.int .u8 (c.toNat : Int)] w fun e w' => e = .returned (.bool (plainB c)) ∧ w = w' := by
  cases hl : letB c with
  | true =>
    have HL := Lib.hid hl; clear hl
    go_enter Try.func74, Try.ntmps74
    go_wp2_with (go_at_call 83; refine (isLetter_t _ _ HL.out).mono ?_; rintro e w' ⟨rfl, rfl⟩)
    go_ret
    exact ⟨ret_bool (by simp [plainB, HL.out]), rfl⟩
  | false =>
    cases hd : digB c with
    | true =>
      have HL := Lib.hid hl; clear hl
      have HD := Lib.hid hd; clear hd
      go_enter Try.func74, Try.ntmps74
      go_wp2_with (first | (go_at_call 83; refine (isLetter_f _ _ HL.out).mono ?_; rintro e w' ⟨rfl, rfl⟩) | (go_at_call 84; refine (isDigit_t _ _ HD.out).mono ?_; rintro e w' ⟨rfl, rfl⟩))
      go_ret
      exact ⟨ret_bool (by simp [plainB, HL.out, HD.out]), rfl⟩
    | false =>
      have HL := Lib.hid hl; clear hl
      have HD := Lib.hid hd; clear hd
      by_cases h1 : c.toNat = 95
      · have e1 : ((c.toNat : Int) == 95) = true := by simp; omega
        have H1 := Lib.hid h1; clear h1
        go_enter Try.func74, Try.ntmps74
        go_wp2_with (first | (go_at_call 83; refine (isLetter_f _ _ HL.out).mono ?_; rintro e w' ⟨rfl, rfl⟩) | (go_at_call 84; refine (isDigit_f _ _ HD.out).mono ?_; rintro e w' ⟨rfl, rfl⟩))
        go_ret
        exact ⟨ret_bool (by simp [plainB, H1.out]), rfl⟩
      by_cases h2 : c.toNat = 45
      · have e1 : ((c.toNat : Int) == 95) = false := by simp; omega
        have e2 : ((c.toNat : Int) == 45) = true := by simp; omega
        have H2 := Lib.hid h2; clear h1 h2
        go_enter Try.func74, Try.ntmps74
        go_wp2_with (first | (go_at_call 83; refine (isLetter_f _ _ HL.out).mono ?_; rintro e w' ⟨rfl, rfl⟩) | (go_at_call 84; refine (isDigit_f _ _ HD.out).mono ?_; rintro e w' ⟨rfl, rfl⟩))
        go_ret
        exact ⟨ret_bool (by simp [plainB, H2.out]), rfl⟩
      by_cases h3 : c.toNat = 46
      · have e1 : ((c.toNat : Int) == 95) = false := by simp; omega
        have e2 : ((c.toNat : Int) == 45) = false := by simp; omega
        have e3 : ((c.toNat : Int) == 46) = true := by simp; omega
        have H3 := Lib.hid h3; clear h1 h2 h3
        go_enter Try.func74, Try.ntmps74
        go_wp2_with (first | (go_at_call 83; refine (isLetter_f _ _ HL.out).mono ?_; rintro e w' ⟨rfl, rfl⟩) | (go_at_call 84; refine (isDigit_f _ _ HD.out).mono ?_; rintro e w' ⟨rfl, rfl⟩))
        go_ret
        exact ⟨ret_bool (by simp [plainB, H3.out]), rfl⟩
      by_cases h4 : c.toNat = 47
      · have e1 : ((c.toNat : Int) == 95) = false := by simp; omega
        have e2 : ((c.toNat : Int) == 45) = false := by simp; omega
        have e3 : ((c.toNat : Int) == 46) = false := by simp; omega
        have e4 : ((c.toNat : Int) == 47) = true := by simp; omega
        have H4 := Lib.hid h4; clear h1 h2 h3 h4
        go_enter Try.func74, Try.ntmps74
        go_wp2_with (first | (go_at_call 83; refine (isLetter_f _ _ HL.out).mono ?_; rintro e w' ⟨rfl, rfl⟩) | (go_at_call 84; refine (isDigit_f _ _ HD.out).mono ?_; rintro e w' ⟨rfl, rfl⟩))
        go_ret
        exact ⟨ret_bool (by simp [plainB, H4.out]), rfl⟩
      · have e1 : ((c.toNat : Int) == 95) = false := by simp; omega
        have e2 : ((c.toNat : Int) == 45) = false := by simp; omega
        have e3 : ((c.toNat : Int) == 46) = false := by simp; omega
        have e4 : ((c.toNat : Int) == 47) = false := by simp; omega
        have H1 := Lib.hid h1
        have H2 := Lib.hid h2
        have H3 := Lib.hid h3
        have H4 := Lib.hid h4
        clear h1 h2 h3 h4
        go_enter Try.func74, Try.ntmps74
        go_wp2_with (first | (go_at_call 83; refine (isLetter_f _ _ HL.out).mono ?_; rintro e w' ⟨rfl, rfl⟩) | (go_at_call 84; refine (isDigit_f _ _ HD.out).mono ?_; rintro e w' ⟨rfl, rfl⟩))
        go_ret
        exact ⟨ret_bool (by simp [plainB, HL.out, HD.out, H1.out, H2.out, H3.out, H4.out]; exact nat_beq c.toNat 43), rfl⟩
theorem isPlain_t (c : UInt8) (w : World) (h : plainB c = true) : Calls Try.prog 74 #[.int .u8 (c.toNat : Int)] w fun e w' => e = .returned (.bool true) ∧ w = w' := by
  have := isPlain_any c w; rwa [h] at this
theorem isPlain_f (c : UInt8) (w : World) (h : plainB c = false) : Calls Try.prog 74 #[.int .u8 (c.toNat : Int)] w fun e w' => e = .returned (.bool false) ∧ w = w' := by
  have := isPlain_any c w; rwa [h] at this

end Go.Proofs.Ytginlknlkbhgaaa
