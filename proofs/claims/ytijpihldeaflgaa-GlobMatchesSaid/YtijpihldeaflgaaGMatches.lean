/-
  GlobMatches: whether a pattern is right, and open, its stem in a text, and whether one of some matches, is as the chapter says: for every two texts and every list of patterns. No condition.
-/
import Derived.Test.YtijpihldeaflgaaRow
import Derived.Test.YtijpihldeaflgaaGRowS
import Derived.Test.YtijpihldeaflgaaGPost
import Derived.Test.YtijpihldeaflgaaGSmall
import Derived.Test.YtijpihldeaflgaaGRefM
import Derived.Test.YtijpihldeaflgaaGApp
namespace Go.Proofs.Ytijpihldeaflgaa
open Go.ChangeShapes Go.WideShapes Go.ChangeAt Go.RowKit

set_option maxRecDepth 100000 in
set_option maxHeartbeats 4000000 in
theorem globMatches_walk (p : ByteArray) (_hp : p.size ≤ maxLen) (s : ByteArray) (_hs : s.size ≤ maxLen) (v : Value) (xs : List ByteArray) (hy : xs.length * 16 ≤ 140737488351232) (_hz : ∀ x ∈ xs, x.size ≤ maxLen) (w : World) (hr : RowOf w w.heap.size v xs) :
    Calls Try.prog 3 #[.string p, .string s, v] w (LawPost w) := by
  have HW := Lib.hid shown_any
  have HR := Lib.hid hr
  clear hr _hp _hs _hz
  cases hsm : smallB (xs ++ [p, s]) with
  | false =>
    have HS : Hid (∀ (v : Value) (B : Nat) (w : World), ReadsO w B v (xs ++ [p, s]) → Calls Try.prog 10 #[v] w fun e w' => e = .returned (.bool false) ∧ w = w') := fun v B w hr => small_f v _ B w hr (by unfold maxLen; simp; omega) hsm
    clear hsm
    go_enter Try.func3, Try.ntmps3
    go_wp2_with fail
    refine (HW.out w).mono ?_
    rintro e w1 ⟨rfl, hw1⟩
    have hb1 : Below w.heap.size w w1 := by obtain ⟨n, rfl⟩ := hw1; exact below_drewN (Below.refl _ _) n
    have hr1 := HR.out.below hb1 hb1.size
    have hal := (Below.refl w1.heap.size w1).alloc (Nat.le_refl _) (.cells #[] 9)
    have hown0 := built_none w1 w1.heap.size (Nat.le_refl _)
    clear hw1
    go_wp2_with (at_builtin; first
      | (refine wpList_append_row (by rfl) _ _ rfl w1.heap.size (w7.heap.size + 1) v7 (.slice (some ⟨w7.heap.size, 0, none⟩) 2 2) xs [p, s] rfl hown8 rfl (built_row w7 [p, s]) (by simp; omega) (by simp; omega) ?_; intro v9 w9 hown9 hgrow9)
      | (refine wpList_append_row (by rfl) _ _ rfl w1.heap.size (w1.alloc (.cells #[] 9)).heap.size (.slice (some ⟨w1.heap.size, 0, none⟩) 0 0) _ [] xs rfl hown0 rfl (hr1.below hal (by simp)) (by simp; omega) (by simp) ?_; intro v7 w7 hown7 hgrow7
         rw [List.nil_append] at hown7
         have hb7 := hal.grown hgrow7 (by simp) (fun j ej => (hown0.lt j ej).1)
         have hz7 := hb7.size
         have hal7 := (Below.refl w7.heap.size w7).alloc (Nat.le_refl _) (.cells #[.string p, .string s] 9)
         have hown8 := ownsRow_below hown7 hal7
         have hb8 := hb7.trans (hal7.mono hz7)))
    have hb9 := hb8.grown hgrow9 (by simp; omega) (fun j ej => (hown8.lt j ej).1)
    have hB9 := hb1.trans (hb9.mono hb1.size)
    have hrd := ReadsO.of_owns hown9
    have hr9 := hr1.below hb9 hb9.size
    clear hown8 hgrow9 hal7 hown9 hb8 hb7 hb1 hr1 hb9 hz7 hown0 hgrow7 hal hown7
    go_wp2_with fail
    refine (HS.out _ _ _ hrd).mono ?_
    rintro e w10 ⟨rfl, rfl⟩
    clear hrd
    go_wp2_with fail
    go_ret
    exact ⟨rfl, hB9⟩
  | true =>
    have HS : Hid (∀ (v : Value) (B : Nat) (w : World), ReadsO w B v (xs ++ [p, s]) → Calls Try.prog 10 #[v] w fun e w' => e = .returned (.bool true) ∧ w = w') := fun v B w hr => small_t v _ B w hr (by unfold maxLen; simp; omega) hsm
    have hall : ∀ x ∈ xs ++ [p, s], x.size ≤ 100 := by
      simp only [smallB, Bool.and_eq_true, List.all_eq_true, decide_eq_true_eq] at hsm
      exact hsm.2
    have h1 : p.size ≤ 100 := hall p (by simp)
    have h2 : s.size ≤ 100 := hall s (by simp)
    have h3 : ∀ x ∈ xs, x.size ≤ 100 := fun x hx => hall x (by simp [hx])
    have hm := match_any p s (by unfold maxLen; omega) (by unfold maxLen; omega)
    have hrm := refMatch_any p s (by omega) (by omega)
    have hg := right_any p
    have hrg := refRight_any p (by unfold maxLen; omega)
    have ho := open_any p
    have hro := refOpen_any p (by unfold maxLen; omega)
    have ha : ∀ (w : World) (B : Nat), ReadsO w B v xs → Calls Try.prog 17 #[v, .string s] w fun e w' => e = .returned (.bool (anyB xs s)) ∧ ∃ n, w' = w.drewN n := fun w B hr =>
      any_any v xs s B w hr (by unfold maxLen; omega) (fun x hx => by have := h3 x hx; unfold maxLen; omega) (by unfold maxLen; omega)
    have hra : ∀ (w : World) (B : Nat), ReadsO w B v xs → Calls Try.prog 18 #[v, .string s] w fun e w' => e = .returned (.bool (anyB xs s)) ∧ ∃ n, w' = w.drewN n := fun w B hr =>
      refAny_any v xs s B w hr (by unfold maxLen; omega) (fun x hx => by have := h3 x hx; omega) (by omega)
    unfold MatchPost at hm hrm
    generalize txt (matchL p.data.toList s.data.toList).1 = t at hm hrm
    generalize (matchL p.data.toList s.data.toList).2 = b at hm hrm
    generalize rightB p.data.toList = r at hg hrg
    generalize openB p.data.toList = o at ho hro
    generalize anyB xs s = y at ha hra
    have HM := Lib.hid hm
    have HRM := Lib.hid hrm
    have HG := Lib.hid hg
    have HRG := Lib.hid hrg
    have HO := Lib.hid ho
    have HRO := Lib.hid hro
    have HA := Lib.hid ha
    have HRA := Lib.hid hra
    have c1 : (t.toList == t.toList) = true := by simp
    have c2 : (b == b) = true := by simp
    have c3 : (r == r) = true := by simp
    have c4 : (o == o) = true := by simp
    clear hm hrm hg hrg ho hro ha hra hsm hall h1 h2 h3
    go_enter Try.func3, Try.ntmps3
    go_wp2_with fail
    refine (HW.out w).mono ?_
    rintro e w1 ⟨rfl, hw1⟩
    have hb1 : Below w.heap.size w w1 := by obtain ⟨n, rfl⟩ := hw1; exact below_drewN (Below.refl _ _) n
    have hr1 := HR.out.below hb1 hb1.size
    have hal := (Below.refl w1.heap.size w1).alloc (Nat.le_refl _) (.cells #[] 9)
    have hown0 := built_none w1 w1.heap.size (Nat.le_refl _)
    clear hw1
    go_wp2_with (at_builtin; first
      | (refine wpList_append_row (by rfl) _ _ rfl w1.heap.size (w7.heap.size + 1) v7 (.slice (some ⟨w7.heap.size, 0, none⟩) 2 2) xs [p, s] rfl hown8 rfl (built_row w7 [p, s]) (by simp; omega) (by simp; omega) ?_; intro v9 w9 hown9 hgrow9)
      | (refine wpList_append_row (by rfl) _ _ rfl w1.heap.size (w1.alloc (.cells #[] 9)).heap.size (.slice (some ⟨w1.heap.size, 0, none⟩) 0 0) _ [] xs rfl hown0 rfl (hr1.below hal (by simp)) (by simp; omega) (by simp) ?_; intro v7 w7 hown7 hgrow7
         rw [List.nil_append] at hown7
         have hb7 := hal.grown hgrow7 (by simp) (fun j ej => (hown0.lt j ej).1)
         have hz7 := hb7.size
         have hal7 := (Below.refl w7.heap.size w7).alloc (Nat.le_refl _) (.cells #[.string p, .string s] 9)
         have hown8 := ownsRow_below hown7 hal7
         have hb8 := hb7.trans (hal7.mono hz7)))
    have hb9 := hb8.grown hgrow9 (by simp; omega) (fun j ej => (hown8.lt j ej).1)
    have hB9 := hb1.trans (hb9.mono hb1.size)
    have hrd := ReadsO.of_owns hown9
    have hr9 := hr1.below hb9 hb9.size
    clear hown8 hgrow9 hal7 hown9 hb8 hb7 hb1 hr1 hb9 hz7 hown0 hgrow7 hal hown7
    go_wp2_with fail
    refine (HS.out _ _ _ hrd).mono ?_
    rintro e w10 ⟨rfl, rfl⟩
    clear hrd
    go_wp2_with fail
    refine (HM.out _).mono ?_
    rintro e w1 ⟨rfl, n2, rfl⟩
    go_wp2_with fail
    refine (HRM.out _).mono ?_
    rintro e w1 ⟨rfl, n3, rfl⟩
    go_wp2_with fail
    refine (HG.out _).mono ?_
    rintro e w1 ⟨rfl, rfl⟩
    go_wp2_with fail
    refine (HRG.out _).mono ?_
    rintro e w1 ⟨rfl, rfl⟩
    go_wp2_with fail
    refine (HO.out _).mono ?_
    rintro e w1 ⟨rfl, rfl⟩
    go_wp2_with fail
    refine (HRO.out _).mono ?_
    rintro e w1 ⟨rfl, rfl⟩
    go_wp2_with fail
    refine (HA.out _ _ (hr9.below (below_drewN (Below.refl _ _) _) (Nat.le_refl _)).reads).mono ?_
    rintro e w1 ⟨rfl, n4, rfl⟩
    go_wp2_with fail
    refine (HRA.out _ _ (hr9.below (below_drewN (Below.refl _ _) _) (Nat.le_refl _)).reads).mono ?_
    rintro e w1 ⟨rfl, n5, rfl⟩
    go_wp2_with fail
    go_ret
    exact ⟨ret_bool (by simp), below_drewN hB9 _⟩

set_option maxRecDepth 100000 in
theorem globMatches_lifted (os : Os) (started : os.Started) (H : Type) (enc : TypeId × Value → H) :
    ReturnsInHanded {} Try.checked os 3 .any (Rows.globMatchesSpec.pre6 enc Try.prog Try.f3 Rows.globMatchesRow.domain false) (Rows.globMatchesSpec.post enc Try.prog Try.f3 false true false false) := by
  refine returnsInHanded_of_change_sized (C := Try.checked) own_knob started (by kernel_rfl) Try.func3
    (ChangeSpec.witness6 (enc := enc) (C := Try.checked) false ⟨#[], #[.string ⟨#[]⟩, .string ⟨#[]⟩, .slice none 0 0], []⟩ 8 (by kernel_rfl) (by kernel_rfl) (by kernel_rfl) (by kernel_rfl)) ?_
  intro W base args ds gs before hval0 hW _ hsz0 _
  have hval : ∀ (j : Nat) t v, Try.f3.params[j]? = some t → args[j]? = some v → Value.okWide Try.prog W .any base t v := hval0
  have hsz : (DataW.weightsEach Try.prog (Try.f3.params.toList ++ Rows.globMatchesSpec.plain.varTypes Try.prog) (ds ++ gs)).all (· ≤ reachBytes) = true := hsz0
  have hW' := hW
  obtain ⟨p, q, hA0, hV, rfl, hfz, hnd⟩ := hW
  have hA : DataW.TrodAll enc Try.prog W 0 (fun _ => true) true Try.f3.params.toList args.toList ds p := hA0
  rw [Try.params3] at hA hval
  obtain ⟨v0, v1, v2, d0, d1, d2, p0, p1, p2, rfl, rfl, rfl, h0, h1, h2⟩ := trodAll_three hA
  obtain ⟨rfl, rfl⟩ := trodVars_none hV
  clear hA0 hval0 hsz0
  simp only [List.append_nil] at hW'
  have hlt := fun x hx => hW'.lt x hx
  obtain ⟨s0, rfl, rfl, rfl, ws0⟩ := Go.ChangeMaps.open_string Try.underlying9 (hval 0 9 v0 rfl rfl) h0
  obtain ⟨s1, rfl, rfl, rfl, ws1⟩ := Go.ChangeMaps.open_string Try.underlying9 (hval 1 9 v1 rfl rfl) h1
  obtain ⟨⟨xs2, hn2, hz2, hr2, hd2⟩, hback2⟩ := open_list (hval 2 22 v2 rfl rfl) h2 (fun x hx => hlt x (by simp [hx]))
  have hy2 := sized_list hsz (j := 2) (by kernel_rfl) rfl hd2
  refine (globMatches_walk s0 ws0 s1 ws1 v2 xs2 hy2 hz2 W hr2).mono fun e W' h => ⟨.bool true, h.1, ?_⟩
  exact post_true_at hW' rfl (by kernel_rfl) Try.underlying4 rfl (trodAll_mk3 (Go.ChangeMaps.shut_string Try.underlying9 ws0) (Go.ChangeMaps.shut_string Try.underlying9 ws1) (hback2 W' h.2)) h.2

theorem globMatches_holds : Rows.GlobMatchesSaid :=
  OpenClaim.holds_of_wide 3 Try.f3 rfl rfl rfl rfl rfl rfl rfl ⟨rfl, rfl, rfl, rfl, rfl⟩ rfl rfl rfl rfl rfl (by kernel_rfl) Try.func3 (by kernel_rfl)
    (of_decide_eq_true (by kernel_rfl)) (by unfold Func.isWrapper; first | (rw [if_pos (by decide +kernel)]; kernel_rfl) | (rw [if_neg (by decide +kernel)]; exact ⟨rfl, rfl⟩))
    (fun os started H enc _ => globMatches_lifted os started H enc)

end Go.Proofs.Ytijpihldeaflgaa
