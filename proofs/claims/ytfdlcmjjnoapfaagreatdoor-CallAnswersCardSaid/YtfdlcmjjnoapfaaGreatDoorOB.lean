/-
  What the document's own each of chapter 10 puts together is what list tells, in plain words; how long it is. No program.
-/
import Derived.Test.YtfdlcmjjnoapfaaGreatDoorOA
namespace Go.Proofs.YtfdlcmjjnoapfaaGreatDoor

theorem ne_all {l : List BT} (h : ∀ x ∈ l, x ≠ []) : neT l = l := by
  unfold neT
  rw [List.filter_eq_self]
  exact fun x hx => decide_eq_true (h x hx)
theorem ne_if (p : BT → Bool) : ∀ ws : List BT, (∀ w ∈ ws, w ≠ []) → neT (ws.map fun w => if p w then w else []) = ws.filter p
  | [], _ => rfl
  | w :: r, h => by
    have ih := ne_if p r fun x hx => h x (List.mem_cons_of_mem _ hx)
    have hw := h w (by simp)
    unfold neT at ih ⊢
    rw [List.map_cons, List.filter_cons, List.filter_cons, ih]
    cases hp : p w with
    | true => simp [hw]
    | false => simp
theorem each_map {n a b : BT} {ws : List BT} (f : BT → BT) (hp : n ≠ nPatsubst) (he : ∀ w, oneE n a b w = f w) : eachT n a b ws = neT (ws.map f) := by
  unfold eachT neT
  rw [show oneE n a b = f from funext he]
  refine List.filter_congr fun x _ => ?_
  by_cases hx : x = [] <;> simp [hx, hp]
theorem dirOf_ne {x : BT} (h : x ≠ []) : dirOf x ≠ [] := by
  unfold dirOf
  have hl := List.length_pos_iff.2 h
  have hb := last_bound 47 x 0 x.length
  split
  · simp
  · next hs =>
    unfold slashAt at hs ⊢
    intro e
    have := congrArg List.length e
    rw [List.length_take, List.length_nil] at this
    omega
theorem words_ne {t w : BT} (h : w ∈ wordsT t) : w ≠ [] := (words_memT h).1.1
theorem each_list (n a b t : BT) (h : n = nStrip ∨ n = nPatsubst ∨ n = nFilter ∨ n = nFilterOut ∨ n = nAddsuffix ∨ n = nAddprefix ∨ n = nDir ∨ n = nNotdir ∨ n = nSuffix ∨ n = nBasename) : eachT n a b (wordsT t) = listT n a b t := by
  rcases h with rfl | rfl | rfl | rfl | rfl | rfl | rfl | rfl | rfl | rfl
  · rw [each_map (fun w => w) (by decide) (fun w => rfl), List.map_id', ne_all (fun x hx => words_ne hx)]; rfl
  · unfold eachT
    have e : ((wordsT t).map (oneE nPatsubst a b)).filter (fun x => decide (x ≠ [] ∨ nPatsubst = nPatsubst)) = (wordsT t).map (oneE nPatsubst a b) := by
      rw [List.filter_eq_self]; simp
    rw [e]; rfl
  · rw [each_map (fun w => if anyL (wordsT a) w then w else []) (by decide) (fun w => rfl), ne_if _ _ (fun x hx => words_ne hx)]; rfl
  · rw [each_map (fun w => if !anyL (wordsT a) w then w else []) (by decide) (fun w => by
      show (if anyL (wordsT a) w then [] else w) = _
      cases anyL (wordsT a) w <;> rfl), ne_if _ _ (fun x hx => words_ne hx)]; rfl
  · rw [each_map (fun w => w ++ a) (by decide) (fun w => rfl), ne_all (fun x hx => by
      obtain ⟨w, hw, rfl⟩ := List.mem_map.1 hx
      have := words_ne hw
      simp [this])]; rfl
  · rw [each_map (fun w => a ++ w) (by decide) (fun w => rfl), ne_all (fun x hx => by
      obtain ⟨w, hw, rfl⟩ := List.mem_map.1 hx
      have := words_ne hw
      simp [this])]; rfl
  · rw [each_map dirOf (by decide) (fun w => rfl), ne_all (fun x hx => by
      obtain ⟨w, hw, rfl⟩ := List.mem_map.1 hx
      exact dirOf_ne (words_ne hw))]; rfl
  · rw [each_map notdirOf (by decide) (fun w => rfl)]; rfl
  · rw [each_map suffixOf (by decide) (fun w => rfl)]; rfl
  · rw [each_map baseOf (by decide) (fun w => rfl)]; rfl
theorem part_len (n w : BT) : (partOf n w).length ≤ w.length + 2 := by
  unfold partOf dirOf notdirOf suffixOf baseOf
  repeat' split
  all_goals simp [List.length_take, List.length_drop]
  all_goals omega
theorem one_len (n a b w : BT) : (oneE n a b w).length ≤ w.length + a.length + b.length + 2 := by
  have h1 := substL_len a b w
  have h2 := part_len n w
  unfold oneE
  repeat' split
  all_goals simp [List.length_append]
  all_goals omega
theorem each_mem {n a b x : BT} {ws : List BT} (h : x ∈ eachT n a b ws) : ∃ w ∈ ws, x = oneE n a b w := by
  unfold eachT at h
  obtain ⟨w, hw, rfl⟩ := List.mem_map.1 (List.mem_filter.1 h).1
  exact ⟨w, hw, rfl⟩
theorem zip_mem {x : BT} (c : Nat) : ∀ {a b : List BT}, (∀ w ∈ a, w.length ≤ c) → (∀ w ∈ b, w.length ≤ c) → x ∈ zipT a b → x.length ≤ 2 * c
  | [], b, _, hb, h => by unfold zipT at h; have := hb x h; omega
  | y :: r, [], ha, _, h => by unfold zipT at h; have := ha x h; omega
  | y :: r, z :: s, ha, hb, h => by
    unfold zipT at h
    rcases List.mem_cons.1 h with rfl | h
    · have h1 := ha y (by simp)
      have h2 := hb z (by simp)
      rw [List.length_append]; omega
    · exact zip_mem c (fun w hw => ha w (List.mem_cons_of_mem _ hw)) (fun w hw => hb w (List.mem_cons_of_mem _ hw)) h
theorem zip_len : ∀ a b : List BT, (zipT a b).length ≤ a.length + b.length
  | [], b => by unfold zipT; omega
  | y :: r, [] => by unfold zipT; simp
  | y :: r, z :: s => by have := zip_len r s; unfold zipT; simp; omega
end Go.Proofs.YtfdlcmjjnoapfaaGreatDoor
