/-
  Plain words on quoted texts.
-/
import Derived.Test.YtllkibdpjpdbbaaDoorLQuote
namespace Go.Proofs.YtllkibdpjpdbbaaDoor
open Go.RowKit Go.Shelf

theorem int_beq_self (a : Int) : (a == a) = true := by simp
theorem plain_cases {c : UInt8} (h : plainB c = true) : (65 ≤ c.toNat ∧ c.toNat ≤ 90) ∨ (97 ≤ c.toNat ∧ c.toNat ≤ 122) ∨ (48 ≤ c.toNat ∧ c.toNat ≤ 57) ∨ c.toNat = 95 ∨ c.toNat = 45 ∨ c.toNat = 46 ∨ c.toNat = 47 ∨ c.toNat = 43 := by
  simp only [plainB, letB, digB, Bool.or_eq_true, decide_eq_true_eq] at h
  omega
theorem hexOf_plain (i : Nat) (h : i < 16) : plainB (hexOf i) = true := by
  match i, h with
  | 0, _ => rfl
  | 1, _ => rfl
  | 2, _ => rfl
  | 3, _ => rfl
  | 4, _ => rfl
  | 5, _ => rfl
  | 6, _ => rfl
  | 7, _ => rfl
  | 8, _ => rfl
  | 9, _ => rfl
  | 10, _ => rfl
  | 11, _ => rfl
  | 12, _ => rfl
  | 13, _ => rfl
  | 14, _ => rfl
  | 15, _ => rfl
  | _ + 16, h => exact absurd h (by omega)
theorem hexOf_inj (i j : Nat) (hi : i < 16) (hj : j < 16) (h : hexOf i = hexOf j) : i = j := by
  have main : ∀ i : Fin 16, ∀ j : Fin 16, hexOf i.val = hexOf j.val → i = j := by decide
  have := main ⟨i, hi⟩ ⟨j, hj⟩ h
  exact congrArg Fin.val this
def signB (c : UInt8) : Bool := plainB c || decide (c.toNat = 37)
theorem quo_signs (c : UInt8) : ∀ x ∈ quo c, signB x = true := by
  have hlt := c.toNat_lt
  unfold quo
  split
  · intro x hx; simp at hx; subst hx; simp [signB, *]
  · intro x hx
    simp at hx
    rcases hx with rfl | rfl | rfl
    · rfl
    · simp [signB, hexOf_plain _ (show c.toNat / 16 < 16 by omega)]
    · simp [signB, hexOf_plain _ (show c.toNat % 16 < 16 by omega)]
theorem quote_signs (l : List UInt8) : ∀ x ∈ quoteOf l, signB x = true := by
  unfold quoteOf
  split
  · intro x hx; simp at hx; subst hx; rfl
  · intro x hx
    simp only [quoAll, List.mem_flatMap] at hx
    obtain ⟨c, _, hx⟩ := hx
    exact quo_signs c x hx
theorem quo_ge (c : UInt8) : 1 ≤ (quo c).length := by unfold quo; split <;> simp
theorem quoAll_ge (l : List UInt8) : l.length ≤ (quoAll l).length := by
  induction l with
  | nil => simp
  | cons c r ih =>
    have := quo_ge c
    simp only [quoAll, List.flatMap_cons, List.length_append, List.length_cons] at ih ⊢
    omega
theorem quote_len (l : List UInt8) : l.length ≤ (quoteOf l).length ∧ ((quoteOf l).length ≤ 1 ∨ (quoteOf l).length ≤ 3 * l.length) := by
  unfold quoteOf
  split
  · rename_i h; subst h; simp
  · exact ⟨quoAll_ge l, .inr (quoAll_len l)⟩
theorem quoAll_inj : ∀ a b : List UInt8, quoAll a = quoAll b → a = b
  | [], [], _ => rfl
  | [], c :: r, h => by
    have := congrArg List.length h
    have h2 := quo_ge c
    simp only [quoAll, List.flatMap_nil, List.flatMap_cons, List.length_append, List.length_nil] at this
    omega
  | c :: r, [], h => by
    have := congrArg List.length h
    have h2 := quo_ge c
    simp only [quoAll, List.flatMap_nil, List.flatMap_cons, List.length_append, List.length_nil] at this
    omega
  | c :: r, d :: t, h => by
    have hc := c.toNat_lt
    have hd := d.toNat_lt
    have e : quo c ++ quoAll r = quo d ++ quoAll t := by simpa [quoAll] using h
    have hp37 : plainB 37 = false := rfl
    cases pc : plainB c <;> cases pd : plainB d
    · simp only [quo, pc, pd, Bool.false_eq_true, if_false, List.cons_append, List.nil_append, List.cons.injEq, true_and] at e
      obtain ⟨e1, e2, e3⟩ := e
      have h1 := hexOf_inj _ _ (by omega) (by omega) e1
      have h2 := hexOf_inj _ _ (by omega) (by omega) e2
      have : c = d := UInt8.toNat_inj.1 (by omega)
      rw [this, quoAll_inj r t e3]
    · simp only [quo, pc, pd, Bool.false_eq_true, if_false, if_true, List.cons_append, List.nil_append, List.cons.injEq] at e
      rw [← e.1, hp37] at pd; cases pd
    · simp only [quo, pc, pd, Bool.false_eq_true, if_false, if_true, List.cons_append, List.nil_append, List.cons.injEq] at e
      rw [e.1, hp37] at pc; cases pc
    · simp only [quo, pc, pd, if_true, List.cons_append, List.nil_append, List.cons.injEq] at e
      rw [e.1, quoAll_inj r t e.2]
theorem quoAll_not37 (l : List UInt8) (h : l ≠ []) : quoAll l ≠ [37] := by
  cases l with
  | nil => exact absurd rfl h
  | cons c r =>
    intro e
    have e' : quo c ++ quoAll r = [37] := by simpa [quoAll] using e
    cases pc : plainB c
    · simp [quo, pc] at e'
    · simp only [quo, pc, if_true, List.cons_append, List.nil_append, List.cons.injEq] at e'
      have hp37 : plainB 37 = false := rfl
      rw [e'.1, hp37] at pc; cases pc
theorem quote_inj (a b : List UInt8) (h : quoteOf a = quoteOf b) : a = b := by
  unfold quoteOf at h
  split at h <;> split at h
  · rename_i h1 h2; rw [h1, h2]
  · rename_i h1 h2; exact absurd h.symm (quoAll_not37 b h2)
  · rename_i h1 h2; exact absurd h (quoAll_not37 a h1)
  · exact quoAll_inj a b h
theorem quoAll_plain (l : List UInt8) (h : allB plainB l = true) : quoAll l = l := by
  induction l with
  | nil => rfl
  | cons c r ih =>
    unfold allB at h ih
    rw [List.all_cons, Bool.and_eq_true] at h
    have := ih h.2
    simp only [quoAll, List.flatMap_cons] at this ⊢
    rw [this, quo, if_pos h.1]; rfl
theorem txt_mem (l : List UInt8) (k : Nat) (hk : k < (txt l).size) : (txt l)[k] ∈ l := by
  have h : k < (txt l).data.toList.length := by rw [Array.length_toList]; exact hk
  have e : (txt l).data.toList[k] = (txt l)[k] := by rw [Array.getElem_toList]; rfl
  have := List.getElem_mem h
  rw [e] at this
  rwa [txt_data] at this

end Go.Proofs.YtllkibdpjpdbbaaDoor
