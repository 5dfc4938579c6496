/-
  What the document's own digits answers; plain words on the document's own Take.
-/
import Derived.Deep.QuietTactic
import Derived.BigQuiet
import Derived.Test.YtllkibdpjpdbbaaDoorLLists
namespace Go.Proofs.YtllkibdpjpdbbaaDoor
open Go.RowKit Go.Shelf


theorem hex_cases (c : UInt8) : (hexB c = true ∧ decide (48 ≤ (c.toNat : Int)) = true ∧ decide ((c.toNat : Int) ≤ 57) = true) ∨ (hexB c = false ∧ decide (48 ≤ (c.toNat : Int)) = false ∧ decide (97 ≤ (c.toNat : Int)) = false) ∨
    (hexB c = false ∧ decide (48 ≤ (c.toNat : Int)) = true ∧ decide ((c.toNat : Int) ≤ 57) = false ∧ decide (97 ≤ (c.toNat : Int)) = false) ∨ (hexB c = true ∧ decide (48 ≤ (c.toNat : Int)) = true ∧ decide ((c.toNat : Int) ≤ 57) = false ∧ decide (97 ≤ (c.toNat : Int)) = true ∧ decide ((c.toNat : Int) ≤ 102) = true) ∨
    (hexB c = false ∧ decide (48 ≤ (c.toNat : Int)) = true ∧ decide ((c.toNat : Int) ≤ 57) = false ∧ decide (97 ≤ (c.toNat : Int)) = true ∧ decide ((c.toNat : Int) ≤ 102) = false) := by
  simp only [hexB, decide_eq_true_eq, decide_eq_false_iff_not]
  omega

set_option maxRecDepth 100000 in
set_option maxHeartbeats 4000000 in
theorem digits_any (s : ByteArray) (hs : s.size ≤ maxLen) (w : World) : Calls Tryd.prog 32 #[.string s] w fun e w' => e = .returned (.bool (allB hexB s.data.toList)) ∧ w = w' := by
  unfold maxLen at hs
  go_enter Tryd.func32, Tryd.ntmps32
  go_wp2
  go_loop [3] (fun i => ∃ k : Nat, k ≤ s.size ∧ i = .int .i64 k ∧ Hid (allB hexB (s.data.toList.take k) = true)) (fun i => s.size - (intOf i).toNat)
  case atStart => exact ⟨0, Nat.zero_le _, rfl, by show _ = _; simp [allB]⟩
  case round =>
    obtain ⟨k, hk, rfl, HA⟩ := hrel
    by_cases hlt : k < s.size
    · have hlt' : k < s.data.toList.length := by rw [Array.length_toList]; exact hlt
      have hgk : s.data.toList[k] = s[k] := by rw [Array.getElem_toList]; rfl
      have hyes : hexB s[k] = true → allB hexB (s.data.toList.take (k + 1)) = true := fun h => all_take HA.out hlt' (by rw [hgk]; exact h)
      have hno : hexB s[k] = false → allB hexB s.data.toList = false := fun h => all_not (p := hexB) hlt' (by rw [hgk]; exact h)
      have HY := Lib.hid hyes
      have HN := Lib.hid hno
      clear hyes hno hgk
      rcases hex_cases s[k] with ⟨h, t1, t2⟩ | ⟨h, t1, t2⟩ | ⟨h, t1, t2, t3⟩ | ⟨h, t1, t2, t3, t4⟩ | ⟨h, t1, t2, t3, t4⟩
      · have HK := Lib.hid (HY.out h); clear h
        go_wp2
        go_round
        case rel => exact ⟨k + 1, hlt, by go_num, HK⟩
        case measure => simp [intOf]; omega
      · have HK := Lib.hid (HN.out h); clear h
        go_wp2
        go_ret
        exact ⟨by rw [HK.out]; rfl, rfl⟩
      · have HK := Lib.hid (HN.out h); clear h
        go_wp2
        go_ret
        exact ⟨by rw [HK.out]; rfl, rfl⟩
      · have HK := Lib.hid (HY.out h); clear h
        go_wp2
        go_round
        case rel => exact ⟨k + 1, hlt, by go_num, HK⟩
        case measure => simp [intOf]; omega
      · have HK := Lib.hid (HN.out h); clear h
        go_wp2
        go_ret
        exact ⟨by rw [HK.out]; rfl, rfl⟩
    · have HK : Hid (allB hexB s.data.toList = true) := by
        have := HA.out
        rw [List.take_of_length_le (by rw [size_list]; omega)] at this
        exact this
      go_wp2
      go_ret
      exact ⟨by rw [HK.out]; rfl, rfl⟩

theorem head_at {l : List UInt8} {k : Nat} (h : ∀ c ∈ l.take k, nlB c = false) (hk : k ≤ l.length) (he : k = l.length ∨ l[k]? = some 10) : headOf l = l.take k := by
  rcases he with rfl | he
  · rw [List.take_length] at h ⊢; exact head_none l h
  · have hlt : k < l.length := (List.getElem?_eq_some_iff.1 he).1
    have e : l = l.take k ++ 10 :: l.drop (k + 1) := by
      have : l[k] = 10 := by rw [List.getElem?_eq_getElem hlt] at he; exact Option.some.inj he
      rw [← this, ← List.drop_eq_getElem_cons hlt, List.take_append_drop]
    conv => lhs; rw [e]
    exact head_cut _ _ h
theorem no_next {p : UInt8 → Bool} {l : List UInt8} {k : Nat} (h : ∀ c ∈ l.take k, p c = false) (hk : k < l.length) (hc : p l[k] = false) : ∀ c ∈ l.take (k + 1), p c = false := by
  intro c hc'
  rw [List.take_succ_eq_append_getElem hk] at hc'
  rcases List.mem_append.1 hc' with h1 | h1
  · exact h c h1
  · simp at h1; rw [h1]; exact hc

/-- One byte more that is no blank; one blank more. -/
theorem pieces_more (l : List UInt8) (a : List (List UInt8)) (b : List UInt8) (c : UInt8) (h : pieces sp32 l = a ++ [b]) (hc : sp32 c = false) : pieces sp32 (l ++ [c]) = a ++ [b ++ [c]] := by
  induction l generalizing a b with
  | nil =>
    simp only [pieces] at h
    have ha : a = [] ∧ b = [] := by
      cases a with
      | nil => simpa using h.symm
      | cons x r =>
        have := congrArg List.length h
        simp at this
    obtain ⟨rfl, rfl⟩ := ha
    simp [pieces, hc]
  | cons x r ih =>
    simp only [List.cons_append, pieces] at h ⊢
    split
    · rename_i hx
      rw [hx] at h
      simp only [if_true] at h
      cases a with
      | nil =>
        have := congrArg List.length h
        have h2 := List.length_pos_iff.2 (pieces_ne sp32 r)
        simp only [List.length_cons, List.nil_append, List.length_nil] at this; omega
      | cons y t =>
        simp only [List.cons_append, List.cons.injEq] at h ⊢
        exact ⟨h.1, ih t b h.2⟩
    · rename_i hx
      have hx' : sp32 x = false := by simpa using hx
      rw [hx'] at h
      simp only [Bool.false_eq_true, if_false] at h
      cases hp : pieces sp32 r with
      | nil => exact absurd hp (pieces_ne _ _)
      | cons y t =>
        rw [hp] at h
        simp only at h
        cases a with
        | nil =>
          simp only [List.nil_append, List.cons.injEq] at h
          obtain ⟨h1, rfl⟩ := h
          rw [ih [] y (by rw [hp]; rfl)]
          simp [← h1]
        | cons z u =>
          simp only [List.cons_append, List.cons.injEq] at h
          obtain ⟨h1, h2⟩ := h
          rw [ih (y :: u) b (by rw [hp, h2]; rfl)]
          simp [← h1]
theorem pieces_blank (l : List UInt8) : pieces sp32 (l ++ [32]) = pieces sp32 l ++ [[]] := pieces_sep sp32 l 32 [] (by decide)

theorem mapM_append_none {a : List (List UInt8)} {x : List UInt8} {r : List (List UInt8)} (h : unqO x = none) : (a ++ x :: r).mapM unqO = none := mapM_none (x := x) (by simp) h
theorem form_stuck {b : List UInt8} {a : List (List UInt8)} {x : List UInt8} {r : List (List UInt8)} (hp : pieces sp32 b = a ++ x :: r) (hr : r ≠ []) (h : unqO x = none) : formOf b = none := by
  unfold formOf
  rw [hp]
  split
  · have : (a ++ x :: r).dropLast = a ++ x :: r.dropLast := by
      rw [List.dropLast_append_of_ne_nil (by simp)]
      congr 1
      cases r with
      | nil => exact absurd rfl hr
      | cons y t => rfl
    rw [this]
    exact mapM_append_none h
  · rfl
theorem form_whole {b : List UInt8} {xs : List (List UInt8)} (hp : pieces sp32 b = xs.map quoteOf ++ [[]]) (h1 : 1 ≤ xs.length) (h2 : xs.length ≤ 40) : formOf b = some xs := by
  unfold formOf
  rw [hp, if_pos ⟨by simp, by simp; omega, by simp; omega⟩, List.dropLast_concat, map_unq]
theorem form_broken {b : List UInt8} {xs : List (List UInt8)} {word : List UInt8} (hp : pieces sp32 b = xs.map quoteOf ++ [word]) (h : word ≠ [] ∨ xs.length = 0 ∨ 40 < xs.length) : formOf b = none := by
  unfold formOf
  rw [hp, if_neg]
  rintro ⟨h1, h2, h3⟩
  simp at h1 h2 h3
  rcases h with h | h | h
  · exact h h1
  · omega
  · omega

end Go.Proofs.YtllkibdpjpdbbaaDoor
