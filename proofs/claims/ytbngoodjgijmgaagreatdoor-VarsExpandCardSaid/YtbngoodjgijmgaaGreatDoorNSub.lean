/-
  What subst, findstring and wordlist of package call answer. For texts of at most a million bytes. No condition.
-/
import Derived.Test.YtbngoodjgijmgaaGreatDoorNLst
import Derived.Test.YtbngoodjgijmgaaGreatDoorNSplit
namespace Go.Proofs.YtbngoodjgijmgaaGreatDoor
open Go.RowKit Go.Shelf

theorem tog_sub (a b t : BT) (ha : a ≠ []) : togT ((spl a t).map txt) (txt b) = finT (some (subT a b t)) := by
  unfold togT finT
  have e : joinS ((spl a t).map txt) (txt b) = subT a b t := by
    unfold joinS
    rw [← spl_subT a b t ha, List.map_map, txt_data]
    congr 1
    conv => rhs; rw [← List.map_id (spl a t)]
    exact List.map_congr_left fun x _ => txt_data x
  rw [e]

set_option maxRecDepth 100000 in
set_option maxHeartbeats 2000000 in
theorem subst_any' (a b t : ByteArray) (ha : a.size ≤ 1000000) (hb : b.size ≤ 1000000) (ht : t.size ≤ 1000000) (w : World) (hst : Std w) :
    Calls Tryz.prog 97 #[.string a, .string b, .string t] w fun e w' => e = .returned (.tuple #[.string (txt (finT (some (subT a.data.toList b.data.toList t.data.toList))).1), .int .i64 (finT (some (subT a.data.toList b.data.toList t.data.toList))).2]) ∧ Below w.heap.size w w' := by
  by_cases h0 : a.toList = []
  · have HV : Hid (subT a.data.toList b.data.toList t.data.toList = t.data.toList) := by
      show _ = _
      rw [Lib.toList_data] at h0
      unfold subT
      rw [if_pos h0]
    have HS := Lib.hid (short_any t (by omega))
    go_enter Tryz.func97, Tryz.ntmps97
    go_wp2_with (go_at_call 99; refine (HS.out _).mono ?_; rintro e w' ⟨rfl, rfl⟩)
    go_ret2
    exact ⟨by rw [HV.out]; rfl, Below.refl _ _⟩
  have h1 : a.toList.isEmpty = false := by simpa using h0
  have hne : a.data.toList ≠ [] := by rw [Lib.toList_data] at h0; exact h0
  have bS := Boxed.new w 9 (.string t)
  have bA := Boxed.new (w.alloc (.cells #[.string t] 9)) 9 (.string a)
  have bV := Boxed.new ((w.alloc (.cells #[.string t] 9)).alloc (.cells #[.string a] 9)) 3 (.int .i64 0)
  simp only [World.size_alloc] at bA bV
  have hB : Below w.heap.size w (((w.alloc (.cells #[.string t] 9)).alloc (.cells #[.string a] 9)).alloc (.cells #[.int .i64 0] 3)) :=
    (((Below.refl _ w).alloc (Nat.le_refl _) _).alloc (by simp) _).alloc (by simp; omega) _
  have hs3 : (((w.alloc (.cells #[.string t] 9)).alloc (.cells #[.string a] 9)).alloc (.cells #[.int .i64 0] 3)).heap.size = w.heap.size + 3 := by simp
  have bS' := (bS.alloc (.cells #[.string a] 9)).alloc (.cells #[.int .i64 0] 3)
  have bA' := bA.alloc (.cells #[.int .i64 0] 3)
  have hsl := spl_len a.data.toList hne _ t.data.toList (Nat.le_refl _)
  rw [size_list] at hsl
  have HT : Hid (Calls Tryz.prog 102 #[.func (.func 198) #[] #[.pointer (some ⟨w.heap.size + 1, 0, none⟩), .pointer (some ⟨w.heap.size, 0, none⟩), .pointer (some ⟨w.heap.size + 1 + 1, 0, none⟩)], .string b]
      (((w.alloc (.cells #[.string t] 9)).alloc (.cells #[.string a] 9)).alloc (.cells #[.int .i64 0] 3)) fun e w' => e = .returned (.tuple #[.string (txt (finT (some (subT a.data.toList b.data.toList t.data.toList))).1), .int .i64 (finT (some (subT a.data.toList b.data.toList t.data.toList))).2]) ∧ Below w.heap.size w w') := by
    have h9 := together_any 198 #[.pointer (some ⟨w.heap.size + 1, 0, none⟩), .pointer (some ⟨w.heap.size, 0, none⟩), .pointer (some ⟨w.heap.size + 1 + 1, 0, none⟩)] (enters_of Tryz.func198 (by kernel_rfl) rfl) b (by omega)
      (fun k => k < w.heap.size) (fun j => j = w.heap.size + 1 ∨ j = w.heap.size ∨ j = w.heap.size + 1 + 1) ((spl a.data.toList t.data.toList).map txt) (fun x hx => by
        obtain ⟨y, hy, rfl⟩ := List.mem_map.1 hx
        rw [txt_size]
        have := hsl y hy
        omega) _ w.heap.size (by rw [hs3]; omega)
      (fun n => split_tells n a t hne (by omega) (by omega) w.heap.size _ _ _ (by omega) (by omega) _ (fun W hW => hst.kept ((below_kept hB).trans hW) (Nat.le_refl _)) bA' bS' bV) (by rintro k (rfl | rfl | rfl) <;> omega) (fun _ h => h)
    have e := tog_sub a.data.toList b.data.toList t.data.toList hne
    rw [txt_toList] at e
    rw [e] at h9
    exact h9.mono fun e w' h => ⟨h.1, hB.trans h.2⟩
  clear h0 hne bS bA bV hB hs3 bS' bA' hsl hst
  go_enter Tryz.func97, Tryz.ntmps97
  go_wp2_with fail
  refine (splitSeq_any t a w).mono ?_
  rintro e w' ⟨rfl, rfl⟩
  go_wp2_with fail
  refine HT.out.mono ?_
  rintro e w' ⟨rfl, hb9⟩
  go_wp2_with fail
  go_ret2
  exact ⟨rfl, hb9⟩

set_option maxHeartbeats 1000000 in
theorem findstring_any (a t : ByteArray) (ha : a.size ≤ 1000000) (ht : t.size ≤ 1000000) (w : World) (hst : Std w) :
    Calls Tryz.prog 98 #[.string a, .string t] w fun e w' => e = .returned (.tuple #[.string (txt (finT (some (if foundB a.data.toList t.data.toList = true then a.data.toList else []))).1), .int .i64 (finT (some (if foundB a.data.toList t.data.toList = true then a.data.toList else []))).2]) ∧ w' = w := by
  obtain ⟨m, hm⟩ := hst.mx
  have hC := libContains t a m w (by omega) hm
  have hF : Lib.contains t.data.toList a.data.toList = foundB a.data.toList t.data.toList := by rw [found_index]; rfl
  rw [hF] at hC
  have HS := Lib.hid (short_any a (by omega))
  cases hf : foundB a.data.toList t.data.toList with
  | true =>
    rw [hf] at hC
    have HC := Lib.hid hC
    rw [if_pos rfl]
    clear hC hF hf hm
    go_enter Tryz.func98, Tryz.ntmps98
    go_wp2_with (first
      | (go_at_call 125; refine HC.out.mono ?_; rintro e w' ⟨rfl, rfl⟩)
      | (go_at_call 99; refine (HS.out _).mono ?_; rintro e w' ⟨rfl, rfl⟩))
    go_ret2
    exact ⟨rfl, rfl⟩
  | false =>
    rw [hf] at hC
    have HC := Lib.hid hC
    rw [if_neg (by simp)]
    clear hC hF hf hm
    go_enter Tryz.func98, Tryz.ntmps98
    go_wp2_with (go_at_call 125; refine HC.out.mono ?_; rintro e w' ⟨rfl, rfl⟩)
    go_ret2
    exact ⟨rfl, rfl⟩
end Go.Proofs.YtbngoodjgijmgaaGreatDoor
