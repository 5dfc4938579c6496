/-
  GlobAny: one of two rows of patterns matches if one of the one row, or of the other one, does; the order does not matter: for every two rows and every text. No condition.
-/
import Derived.Test.YtijpihldeaflgaaRow
import Derived.Test.YtijpihldeaflgaaGRowS
import Derived.Test.YtijpihldeaflgaaGPost
import Derived.Test.YtijpihldeaflgaaGSmall
import Derived.Test.YtijpihldeaflgaaGApp
namespace Go.Proofs.Ytijpihldeaflgaa
open Go.ChangeShapes Go.WideShapes Go.ChangeAt Go.RowKit

theorem any_append (xs ys : List ByteArray) (s : ByteArray) : anyB (xs ++ ys) s = (anyB xs s || anyB ys s) := by unfold anyB; rw [List.any_append]

theorem any_at {xs : List ByteArray} {s : ByteArray} {b : Bool} (h : anyB xs s = b) (hn : xs.length ≤ 1000) (hz : ∀ x ∈ xs, x.size ≤ 100) (hs : s.size ≤ 100) (v : Value) (B : Nat) (w : World) (hr : ReadsO w B v xs) :
    Calls Try.prog 17 #[v, .string s] w fun e w' => e = .returned (.bool b) ∧ ∃ n, w' = w.drewN n := by
  have := any_any v xs s B w hr (by unfold maxLen; omega) (fun x hx => by have := hz x hx; unfold maxLen; omega) (by unfold maxLen; omega)
  rwa [h] at this

set_option maxRecDepth 100000 in
set_option maxHeartbeats 8000000 in
theorem globAny_walk (v : Value) (xs : List ByteArray) (hy : xs.length * 16 ≤ 140737488351232) (_hz : ∀ x ∈ xs, x.size ≤ maxLen) (u : Value) (ys : List ByteArray) (hyk : ys.length * 16 ≤ 140737488351232) (_hzk : ∀ x ∈ ys, x.size ≤ maxLen) (s : ByteArray) (_hs : s.size ≤ maxLen) (w : World)
    (hr : RowOf w w.heap.size v xs) (hk : RowOf w w.heap.size u ys) : Calls Try.prog 8 #[v, u, .string s] w (LawPost w) := by
  have HW := Lib.hid shown_any
  have HR := Lib.hid hr
  have HK := Lib.hid hk
  clear hr hk _hz _hzk _hs
  cases hs1 : smallB xs with
  | false =>
    have HS1 : Hid (∀ (v : Value) (B : Nat) (w : World), ReadsO w B v xs → Calls Try.prog 10 #[v] w fun e w' => e = .returned (.bool false) ∧ w = w') := fun v B w hr => small_f v _ B w hr (by unfold maxLen; omega) hs1
    have HS2 : Hid (∀ (v : Value) (B : Nat) (w : World), ReadsO w B v ys → Calls Try.prog 10 #[v] w fun e w' => e = .returned (.bool (smallB ys)) ∧ w = w') := fun v B w hr => small_any v _ B w hr (by unfold maxLen; omega)
    clear hs1 hy hyk
    generalize smallB ys = b2 at HS2
    go_enter Try.func8, Try.ntmps8
    go_wp2_with fail
    refine (HW.out w).mono ?_
    rintro e w1 ⟨rfl, hw1⟩
    have hb1 : Below w.heap.size w w1 := by obtain ⟨n, rfl⟩ := hw1; exact below_drewN (Below.refl _ _) n
    have hr1 := HR.out.below hb1 hb1.size
    have hk1 := HK.out.below hb1 hb1.size
    clear hw1
    go_wp2_with fail
    refine (HS1.out _ _ _ hr1.reads).mono ?_
    rintro e w2 ⟨rfl, rfl⟩
    go_wp2_with fail
    refine (HS2.out _ _ _ hk1.reads).mono ?_
    rintro e w2 ⟨rfl, rfl⟩
    go_wp2_with fail
    go_ret
    exact ⟨rfl, hb1⟩
  | true =>
    have HS1 : Hid (∀ (v : Value) (B : Nat) (w : World), ReadsO w B v xs → Calls Try.prog 10 #[v] w fun e w' => e = .returned (.bool true) ∧ w = w') := fun v B w hr => small_t v _ B w hr (by unfold maxLen; omega) hs1
    cases hs2 : smallB ys with
    | false =>
      have HS2 : Hid (∀ (v : Value) (B : Nat) (w : World), ReadsO w B v ys → Calls Try.prog 10 #[v] w fun e w' => e = .returned (.bool false) ∧ w = w') := fun v B w hr => small_f v _ B w hr (by unfold maxLen; omega) hs2
      clear hs1 hs2 hy hyk
      go_enter Try.func8, Try.ntmps8
      go_wp2_with fail
      refine (HW.out w).mono ?_
      rintro e w1 ⟨rfl, hw1⟩
      have hb1 : Below w.heap.size w w1 := by obtain ⟨n, rfl⟩ := hw1; exact below_drewN (Below.refl _ _) n
      have hr1 := HR.out.below hb1 hb1.size
      have hk1 := HK.out.below hb1 hb1.size
      clear hw1
      go_wp2_with fail
      refine (HS1.out _ _ _ hr1.reads).mono ?_
      rintro e w2 ⟨rfl, rfl⟩
      go_wp2_with fail
      refine (HS2.out _ _ _ hk1.reads).mono ?_
      rintro e w2 ⟨rfl, rfl⟩
      go_wp2_with fail
      go_ret
      exact ⟨rfl, hb1⟩
    | true =>
      have HS2 : Hid (∀ (v : Value) (B : Nat) (w : World), ReadsO w B v ys → Calls Try.prog 10 #[v] w fun e w' => e = .returned (.bool true) ∧ w = w') := fun v B w hr => small_t v _ B w hr (by unfold maxLen; omega) hs2
      by_cases hbig : 100 < s.size
      · have e1 : decide (100 < (s.size : Int)) = true := by simp; omega
        clear hs1 hs2 hy hyk
        go_enter Try.func8, Try.ntmps8
        go_wp2_with fail
        refine (HW.out w).mono ?_
        rintro e w1 ⟨rfl, hw1⟩
        have hb1 : Below w.heap.size w w1 := by obtain ⟨n, rfl⟩ := hw1; exact below_drewN (Below.refl _ _) n
        have hr1 := HR.out.below hb1 hb1.size
        have hk1 := HK.out.below hb1 hb1.size
        clear hw1
        go_wp2_with fail
        refine (HS1.out _ _ _ hr1.reads).mono ?_
        rintro e w2 ⟨rfl, rfl⟩
        go_wp2_with fail
        refine (HS2.out _ _ _ hk1.reads).mono ?_
        rintro e w2 ⟨rfl, rfl⟩
        go_wp2_with fail
        go_ret
        exact ⟨rfl, hb1⟩
      have e1 : decide (100 < (s.size : Int)) = false := by simp; omega
      simp only [smallB, Bool.and_eq_true, List.all_eq_true, decide_eq_true_eq] at hs1 hs2
      obtain ⟨hl1, ha1⟩ := hs1
      obtain ⟨hl2, ha2⟩ := hs2
      have hp1 := any_append xs ys s
      have hp2 := any_append ys xs s
      have hall1 : ∀ x ∈ xs ++ ys, x.size ≤ 100 := fun x hx => by exact (List.mem_append.1 hx).elim (ha1 x) (ha2 x)
      have hall2 : ∀ x ∈ ys ++ xs, x.size ≤ 100 := fun x hx => by exact (List.mem_append.1 hx).elim (ha2 x) (ha1 x)
      have HN := Lib.hid (any_at (xs := []) (s := s) (b := false) rfl (by simp) (by simp) (by omega))
      cases hA : anyB xs s with
      | true =>
       cases hKk : anyB ys s with
       | true =>
        have HAB := Lib.hid (any_at (xs := xs ++ ys) (s := s) (b := true) (by rw [hp1, hA, hKk]; rfl) (by rw [List.length_append]; omega) hall1 (by omega))
        have HTU := Lib.hid (any_at (xs := ys ++ xs) (s := s) (b := true) (by rw [hp2, hA, hKk]; rfl) (by rw [List.length_append]; omega) hall2 (by omega))
        have HL := Lib.hid (any_at hA (by omega) ha1 (by omega))
        have HKK := Lib.hid (any_at hKk (by omega) ha2 (by omega))
        clear hA hKk hp1 hp2 hall1 hall2 ha1 ha2 hbig
        go_enter Try.func8, Try.ntmps8
        go_wp2_with fail
        refine (HW.out w).mono ?_
        rintro e w1 ⟨rfl, hw1⟩
        have hb1 : Below w.heap.size w w1 := by obtain ⟨n, rfl⟩ := hw1; exact below_drewN (Below.refl _ _) n
        have hr1 := HR.out.below hb1 hb1.size
        have hk1 := HK.out.below hb1 hb1.size
        clear hw1
        go_wp2_with fail
        refine (HS1.out _ _ _ hr1.reads).mono ?_
        rintro e w2 ⟨rfl, rfl⟩
        go_wp2_with fail
        refine (HS2.out _ _ _ hk1.reads).mono ?_
        rintro e w2 ⟨rfl, rfl⟩
        
        have hal3 := (Below.refl w1.heap.size w1).alloc (Nat.le_refl _) (.cells #[] 9)
        have hown03 := built_none w1 w1.heap.size (Nat.le_refl _)
        go_wp2_with (at_builtin; first
          | (refine wpList_append_row (by rfl) _ _ rfl w3.heap.size wa4.heap.size va4 _ ys xs rfl howna4 rfl (hr3.below hba4 hza4) (by omega) hza4 ?_; intro v4 w4 hown4 hgrow4
             have hb4 := hba4.grown hgrow4 hza4 (fun j ej => (howna4.lt j ej).1)
             have hrd4 := ReadsO.of_owns hown4)
          | (refine wpList_append_row (by rfl) _ _ rfl w3.heap.size (w3.alloc (.cells #[] 9)).heap.size (.slice (some ⟨w3.heap.size, 0, none⟩) 0 0) _ [] ys rfl hown04 rfl (hk3.below hal4 (by simp)) (by simp; omega) (by simp) ?_; intro va4 wa4 howna4 hgrowa4
             rw [List.nil_append] at howna4
             have hba4 := hal4.grown hgrowa4 (by simp) (fun j ej => (hown04.lt j ej).1)
             have hza4 := hba4.size)
          | (refine wpList_append_row (by rfl) _ _ rfl w1.heap.size wa3.heap.size va3 _ xs ys rfl howna3 rfl (hk1.below hba3 hza3) (by omega) hza3 ?_; intro v3 w3 hown3 hgrow3
             have hb3 := hba3.grown hgrow3 hza3 (fun j ej => (howna3.lt j ej).1)
             have hrd3 := ReadsO.of_owns hown3
             have hr3 := hr1.below hb3 hb3.size
             have hk3 := hk1.below hb3 hb3.size
             have hB3 := hb1.trans (hb3.mono hb1.size)
             have hal4 := (Below.refl w3.heap.size w3).alloc (Nat.le_refl _) (.cells #[] 9)
             have hown04 := built_none w3 w3.heap.size (Nat.le_refl _))
          | (refine wpList_append_row (by rfl) _ _ rfl w1.heap.size (w1.alloc (.cells #[] 9)).heap.size (.slice (some ⟨w1.heap.size, 0, none⟩) 0 0) _ [] xs rfl hown03 rfl (hr1.below hal3 (by simp)) (by simp; omega) (by simp) ?_; intro va3 wa3 howna3 hgrowa3
             rw [List.nil_append] at howna3
             have hba3 := hal3.grown hgrowa3 (by simp) (fun j ej => (hown03.lt j ej).1)
             have hza3 := hba3.size))
        
        have hr4 := (hr3.below hb4 hb4.size).reads
        have hk4 := (hk3.below hb4 hb4.size).reads
        have hrd5 := hrd3.below hb4 hb4.size
        have hB4 := hB3.trans (hb4.mono hB3.size)
        have hn4 : ReadsO w4 w4.heap.size (.slice none 0 0) [] := ⟨none, 0, rfl, by simp⟩
        clear hr3 hk3 hrd3 hB3 hb4 hr1 hk1 hb1 hb3 hal3 hal4 hown03 hown04 howna3 howna4 hgrowa3 hgrowa4 hba3 hba4 hza3 hza4 hown3 hown4 hgrow3 hgrow4
        go_wp2_with fail
        refine (HAB.out _ _ _ hrd5).mono ?_
        rintro e wq ⟨rfl, nHAB, rfl⟩
        go_wp2_with fail
        refine (HL.out _ _ _ (hr4.below (below_drewN (Below.refl _ _) _) (Nat.le_refl _))).mono ?_
        rintro e wq ⟨rfl, nHL, rfl⟩
        go_wp2_with fail
        refine (HAB.out _ _ _ (hrd5.below (below_drewN (Below.refl _ _) _) (Nat.le_refl _))).mono ?_
        rintro e wq ⟨rfl, nHAB, rfl⟩
        go_wp2_with fail
        refine (HTU.out _ _ _ (hrd4.below (below_drewN (Below.refl _ _) _) (Nat.le_refl _))).mono ?_
        rintro e wq ⟨rfl, nHTU, rfl⟩
        go_wp2_with fail
        refine (HN.out _ _ _ (hn4.below (below_drewN (Below.refl _ _) _) (Nat.le_refl _))).mono ?_
        rintro e wq ⟨rfl, nHN, rfl⟩
        go_wp2_with fail
        go_ret
        exact ⟨rfl, below_drewN hB4 _⟩
       | false =>
        have HAB := Lib.hid (any_at (xs := xs ++ ys) (s := s) (b := true) (by rw [hp1, hA, hKk]; rfl) (by rw [List.length_append]; omega) hall1 (by omega))
        have HTU := Lib.hid (any_at (xs := ys ++ xs) (s := s) (b := true) (by rw [hp2, hA, hKk]; rfl) (by rw [List.length_append]; omega) hall2 (by omega))
        have HL := Lib.hid (any_at hA (by omega) ha1 (by omega))
        have HKK := Lib.hid (any_at hKk (by omega) ha2 (by omega))
        clear hA hKk hp1 hp2 hall1 hall2 ha1 ha2 hbig
        go_enter Try.func8, Try.ntmps8
        go_wp2_with fail
        refine (HW.out w).mono ?_
        rintro e w1 ⟨rfl, hw1⟩
        have hb1 : Below w.heap.size w w1 := by obtain ⟨n, rfl⟩ := hw1; exact below_drewN (Below.refl _ _) n
        have hr1 := HR.out.below hb1 hb1.size
        have hk1 := HK.out.below hb1 hb1.size
        clear hw1
        go_wp2_with fail
        refine (HS1.out _ _ _ hr1.reads).mono ?_
        rintro e w2 ⟨rfl, rfl⟩
        go_wp2_with fail
        refine (HS2.out _ _ _ hk1.reads).mono ?_
        rintro e w2 ⟨rfl, rfl⟩
        
        have hal3 := (Below.refl w1.heap.size w1).alloc (Nat.le_refl _) (.cells #[] 9)
        have hown03 := built_none w1 w1.heap.size (Nat.le_refl _)
        go_wp2_with (at_builtin; first
          | (refine wpList_append_row (by rfl) _ _ rfl w3.heap.size wa4.heap.size va4 _ ys xs rfl howna4 rfl (hr3.below hba4 hza4) (by omega) hza4 ?_; intro v4 w4 hown4 hgrow4
             have hb4 := hba4.grown hgrow4 hza4 (fun j ej => (howna4.lt j ej).1)
             have hrd4 := ReadsO.of_owns hown4)
          | (refine wpList_append_row (by rfl) _ _ rfl w3.heap.size (w3.alloc (.cells #[] 9)).heap.size (.slice (some ⟨w3.heap.size, 0, none⟩) 0 0) _ [] ys rfl hown04 rfl (hk3.below hal4 (by simp)) (by simp; omega) (by simp) ?_; intro va4 wa4 howna4 hgrowa4
             rw [List.nil_append] at howna4
             have hba4 := hal4.grown hgrowa4 (by simp) (fun j ej => (hown04.lt j ej).1)
             have hza4 := hba4.size)
          | (refine wpList_append_row (by rfl) _ _ rfl w1.heap.size wa3.heap.size va3 _ xs ys rfl howna3 rfl (hk1.below hba3 hza3) (by omega) hza3 ?_; intro v3 w3 hown3 hgrow3
             have hb3 := hba3.grown hgrow3 hza3 (fun j ej => (howna3.lt j ej).1)
             have hrd3 := ReadsO.of_owns hown3
             have hr3 := hr1.below hb3 hb3.size
             have hk3 := hk1.below hb3 hb3.size
             have hB3 := hb1.trans (hb3.mono hb1.size)
             have hal4 := (Below.refl w3.heap.size w3).alloc (Nat.le_refl _) (.cells #[] 9)
             have hown04 := built_none w3 w3.heap.size (Nat.le_refl _))
          | (refine wpList_append_row (by rfl) _ _ rfl w1.heap.size (w1.alloc (.cells #[] 9)).heap.size (.slice (some ⟨w1.heap.size, 0, none⟩) 0 0) _ [] xs rfl hown03 rfl (hr1.below hal3 (by simp)) (by simp; omega) (by simp) ?_; intro va3 wa3 howna3 hgrowa3
             rw [List.nil_append] at howna3
             have hba3 := hal3.grown hgrowa3 (by simp) (fun j ej => (hown03.lt j ej).1)
             have hza3 := hba3.size))
        
        have hr4 := (hr3.below hb4 hb4.size).reads
        have hk4 := (hk3.below hb4 hb4.size).reads
        have hrd5 := hrd3.below hb4 hb4.size
        have hB4 := hB3.trans (hb4.mono hB3.size)
        have hn4 : ReadsO w4 w4.heap.size (.slice none 0 0) [] := ⟨none, 0, rfl, by simp⟩
        clear hr3 hk3 hrd3 hB3 hb4 hr1 hk1 hb1 hb3 hal3 hal4 hown03 hown04 howna3 howna4 hgrowa3 hgrowa4 hba3 hba4 hza3 hza4 hown3 hown4 hgrow3 hgrow4
        go_wp2_with fail
        refine (HAB.out _ _ _ hrd5).mono ?_
        rintro e wq ⟨rfl, nHAB, rfl⟩
        go_wp2_with fail
        refine (HL.out _ _ _ (hr4.below (below_drewN (Below.refl _ _) _) (Nat.le_refl _))).mono ?_
        rintro e wq ⟨rfl, nHL, rfl⟩
        go_wp2_with fail
        refine (HAB.out _ _ _ (hrd5.below (below_drewN (Below.refl _ _) _) (Nat.le_refl _))).mono ?_
        rintro e wq ⟨rfl, nHAB, rfl⟩
        go_wp2_with fail
        refine (HTU.out _ _ _ (hrd4.below (below_drewN (Below.refl _ _) _) (Nat.le_refl _))).mono ?_
        rintro e wq ⟨rfl, nHTU, rfl⟩
        go_wp2_with fail
        refine (HN.out _ _ _ (hn4.below (below_drewN (Below.refl _ _) _) (Nat.le_refl _))).mono ?_
        rintro e wq ⟨rfl, nHN, rfl⟩
        go_wp2_with fail
        go_ret
        exact ⟨rfl, below_drewN hB4 _⟩
      | false =>
       cases hKk : anyB ys s with
       | true =>
        have HAB := Lib.hid (any_at (xs := xs ++ ys) (s := s) (b := true) (by rw [hp1, hA, hKk]; rfl) (by rw [List.length_append]; omega) hall1 (by omega))
        have HTU := Lib.hid (any_at (xs := ys ++ xs) (s := s) (b := true) (by rw [hp2, hA, hKk]; rfl) (by rw [List.length_append]; omega) hall2 (by omega))
        have HL := Lib.hid (any_at hA (by omega) ha1 (by omega))
        have HKK := Lib.hid (any_at hKk (by omega) ha2 (by omega))
        clear hA hKk hp1 hp2 hall1 hall2 ha1 ha2 hbig
        go_enter Try.func8, Try.ntmps8
        go_wp2_with fail
        refine (HW.out w).mono ?_
        rintro e w1 ⟨rfl, hw1⟩
        have hb1 : Below w.heap.size w w1 := by obtain ⟨n, rfl⟩ := hw1; exact below_drewN (Below.refl _ _) n
        have hr1 := HR.out.below hb1 hb1.size
        have hk1 := HK.out.below hb1 hb1.size
        clear hw1
        go_wp2_with fail
        refine (HS1.out _ _ _ hr1.reads).mono ?_
        rintro e w2 ⟨rfl, rfl⟩
        go_wp2_with fail
        refine (HS2.out _ _ _ hk1.reads).mono ?_
        rintro e w2 ⟨rfl, rfl⟩
        
        have hal3 := (Below.refl w1.heap.size w1).alloc (Nat.le_refl _) (.cells #[] 9)
        have hown03 := built_none w1 w1.heap.size (Nat.le_refl _)
        go_wp2_with (at_builtin; first
          | (refine wpList_append_row (by rfl) _ _ rfl w3.heap.size wa4.heap.size va4 _ ys xs rfl howna4 rfl (hr3.below hba4 hza4) (by omega) hza4 ?_; intro v4 w4 hown4 hgrow4
             have hb4 := hba4.grown hgrow4 hza4 (fun j ej => (howna4.lt j ej).1)
             have hrd4 := ReadsO.of_owns hown4)
          | (refine wpList_append_row (by rfl) _ _ rfl w3.heap.size (w3.alloc (.cells #[] 9)).heap.size (.slice (some ⟨w3.heap.size, 0, none⟩) 0 0) _ [] ys rfl hown04 rfl (hk3.below hal4 (by simp)) (by simp; omega) (by simp) ?_; intro va4 wa4 howna4 hgrowa4
             rw [List.nil_append] at howna4
             have hba4 := hal4.grown hgrowa4 (by simp) (fun j ej => (hown04.lt j ej).1)
             have hza4 := hba4.size)
          | (refine wpList_append_row (by rfl) _ _ rfl w1.heap.size wa3.heap.size va3 _ xs ys rfl howna3 rfl (hk1.below hba3 hza3) (by omega) hza3 ?_; intro v3 w3 hown3 hgrow3
             have hb3 := hba3.grown hgrow3 hza3 (fun j ej => (howna3.lt j ej).1)
             have hrd3 := ReadsO.of_owns hown3
             have hr3 := hr1.below hb3 hb3.size
             have hk3 := hk1.below hb3 hb3.size
             have hB3 := hb1.trans (hb3.mono hb1.size)
             have hal4 := (Below.refl w3.heap.size w3).alloc (Nat.le_refl _) (.cells #[] 9)
             have hown04 := built_none w3 w3.heap.size (Nat.le_refl _))
          | (refine wpList_append_row (by rfl) _ _ rfl w1.heap.size (w1.alloc (.cells #[] 9)).heap.size (.slice (some ⟨w1.heap.size, 0, none⟩) 0 0) _ [] xs rfl hown03 rfl (hr1.below hal3 (by simp)) (by simp; omega) (by simp) ?_; intro va3 wa3 howna3 hgrowa3
             rw [List.nil_append] at howna3
             have hba3 := hal3.grown hgrowa3 (by simp) (fun j ej => (hown03.lt j ej).1)
             have hza3 := hba3.size))
        
        have hr4 := (hr3.below hb4 hb4.size).reads
        have hk4 := (hk3.below hb4 hb4.size).reads
        have hrd5 := hrd3.below hb4 hb4.size
        have hB4 := hB3.trans (hb4.mono hB3.size)
        have hn4 : ReadsO w4 w4.heap.size (.slice none 0 0) [] := ⟨none, 0, rfl, by simp⟩
        clear hr3 hk3 hrd3 hB3 hb4 hr1 hk1 hb1 hb3 hal3 hal4 hown03 hown04 howna3 howna4 hgrowa3 hgrowa4 hba3 hba4 hza3 hza4 hown3 hown4 hgrow3 hgrow4
        go_wp2_with fail
        refine (HAB.out _ _ _ hrd5).mono ?_
        rintro e wq ⟨rfl, nHAB, rfl⟩
        go_wp2_with fail
        refine (HL.out _ _ _ (hr4.below (below_drewN (Below.refl _ _) _) (Nat.le_refl _))).mono ?_
        rintro e wq ⟨rfl, nHL, rfl⟩
        go_wp2_with fail
        refine (HKK.out _ _ _ (hk4.below (below_drewN (Below.refl _ _) _) (Nat.le_refl _))).mono ?_
        rintro e wq ⟨rfl, nHKK, rfl⟩
        go_wp2_with fail
        refine (HAB.out _ _ _ (hrd5.below (below_drewN (Below.refl _ _) _) (Nat.le_refl _))).mono ?_
        rintro e wq ⟨rfl, nHAB, rfl⟩
        go_wp2_with fail
        refine (HTU.out _ _ _ (hrd4.below (below_drewN (Below.refl _ _) _) (Nat.le_refl _))).mono ?_
        rintro e wq ⟨rfl, nHTU, rfl⟩
        go_wp2_with fail
        refine (HN.out _ _ _ (hn4.below (below_drewN (Below.refl _ _) _) (Nat.le_refl _))).mono ?_
        rintro e wq ⟨rfl, nHN, rfl⟩
        go_wp2_with fail
        go_ret
        exact ⟨rfl, below_drewN hB4 _⟩
       | false =>
        have HAB := Lib.hid (any_at (xs := xs ++ ys) (s := s) (b := false) (by rw [hp1, hA, hKk]; rfl) (by rw [List.length_append]; omega) hall1 (by omega))
        have HTU := Lib.hid (any_at (xs := ys ++ xs) (s := s) (b := false) (by rw [hp2, hA, hKk]; rfl) (by rw [List.length_append]; omega) hall2 (by omega))
        have HL := Lib.hid (any_at hA (by omega) ha1 (by omega))
        have HKK := Lib.hid (any_at hKk (by omega) ha2 (by omega))
        clear hA hKk hp1 hp2 hall1 hall2 ha1 ha2 hbig
        go_enter Try.func8, Try.ntmps8
        go_wp2_with fail
        refine (HW.out w).mono ?_
        rintro e w1 ⟨rfl, hw1⟩
        have hb1 : Below w.heap.size w w1 := by obtain ⟨n, rfl⟩ := hw1; exact below_drewN (Below.refl _ _) n
        have hr1 := HR.out.below hb1 hb1.size
        have hk1 := HK.out.below hb1 hb1.size
        clear hw1
        go_wp2_with fail
        refine (HS1.out _ _ _ hr1.reads).mono ?_
        rintro e w2 ⟨rfl, rfl⟩
        go_wp2_with fail
        refine (HS2.out _ _ _ hk1.reads).mono ?_
        rintro e w2 ⟨rfl, rfl⟩
        
        have hal3 := (Below.refl w1.heap.size w1).alloc (Nat.le_refl _) (.cells #[] 9)
        have hown03 := built_none w1 w1.heap.size (Nat.le_refl _)
        go_wp2_with (at_builtin; first
          | (refine wpList_append_row (by rfl) _ _ rfl w3.heap.size wa4.heap.size va4 _ ys xs rfl howna4 rfl (hr3.below hba4 hza4) (by omega) hza4 ?_; intro v4 w4 hown4 hgrow4
             have hb4 := hba4.grown hgrow4 hza4 (fun j ej => (howna4.lt j ej).1)
             have hrd4 := ReadsO.of_owns hown4)
          | (refine wpList_append_row (by rfl) _ _ rfl w3.heap.size (w3.alloc (.cells #[] 9)).heap.size (.slice (some ⟨w3.heap.size, 0, none⟩) 0 0) _ [] ys rfl hown04 rfl (hk3.below hal4 (by simp)) (by simp; omega) (by simp) ?_; intro va4 wa4 howna4 hgrowa4
             rw [List.nil_append] at howna4
             have hba4 := hal4.grown hgrowa4 (by simp) (fun j ej => (hown04.lt j ej).1)
             have hza4 := hba4.size)
          | (refine wpList_append_row (by rfl) _ _ rfl w1.heap.size wa3.heap.size va3 _ xs ys rfl howna3 rfl (hk1.below hba3 hza3) (by omega) hza3 ?_; intro v3 w3 hown3 hgrow3
             have hb3 := hba3.grown hgrow3 hza3 (fun j ej => (howna3.lt j ej).1)
             have hrd3 := ReadsO.of_owns hown3
             have hr3 := hr1.below hb3 hb3.size
             have hk3 := hk1.below hb3 hb3.size
             have hB3 := hb1.trans (hb3.mono hb1.size)
             have hal4 := (Below.refl w3.heap.size w3).alloc (Nat.le_refl _) (.cells #[] 9)
             have hown04 := built_none w3 w3.heap.size (Nat.le_refl _))
          | (refine wpList_append_row (by rfl) _ _ rfl w1.heap.size (w1.alloc (.cells #[] 9)).heap.size (.slice (some ⟨w1.heap.size, 0, none⟩) 0 0) _ [] xs rfl hown03 rfl (hr1.below hal3 (by simp)) (by simp; omega) (by simp) ?_; intro va3 wa3 howna3 hgrowa3
             rw [List.nil_append] at howna3
             have hba3 := hal3.grown hgrowa3 (by simp) (fun j ej => (hown03.lt j ej).1)
             have hza3 := hba3.size))
        
        have hr4 := (hr3.below hb4 hb4.size).reads
        have hk4 := (hk3.below hb4 hb4.size).reads
        have hrd5 := hrd3.below hb4 hb4.size
        have hB4 := hB3.trans (hb4.mono hB3.size)
        have hn4 : ReadsO w4 w4.heap.size (.slice none 0 0) [] := ⟨none, 0, rfl, by simp⟩
        clear hr3 hk3 hrd3 hB3 hb4 hr1 hk1 hb1 hb3 hal3 hal4 hown03 hown04 howna3 howna4 hgrowa3 hgrowa4 hba3 hba4 hza3 hza4 hown3 hown4 hgrow3 hgrow4
        go_wp2_with fail
        refine (HAB.out _ _ _ hrd5).mono ?_
        rintro e wq ⟨rfl, nHAB, rfl⟩
        go_wp2_with fail
        refine (HL.out _ _ _ (hr4.below (below_drewN (Below.refl _ _) _) (Nat.le_refl _))).mono ?_
        rintro e wq ⟨rfl, nHL, rfl⟩
        go_wp2_with fail
        refine (HKK.out _ _ _ (hk4.below (below_drewN (Below.refl _ _) _) (Nat.le_refl _))).mono ?_
        rintro e wq ⟨rfl, nHKK, rfl⟩
        go_wp2_with fail
        refine (HAB.out _ _ _ (hrd5.below (below_drewN (Below.refl _ _) _) (Nat.le_refl _))).mono ?_
        rintro e wq ⟨rfl, nHAB, rfl⟩
        go_wp2_with fail
        refine (HTU.out _ _ _ (hrd4.below (below_drewN (Below.refl _ _) _) (Nat.le_refl _))).mono ?_
        rintro e wq ⟨rfl, nHTU, rfl⟩
        go_wp2_with fail
        refine (HN.out _ _ _ (hn4.below (below_drewN (Below.refl _ _) _) (Nat.le_refl _))).mono ?_
        rintro e wq ⟨rfl, nHN, rfl⟩
        go_wp2_with fail
        go_ret
        exact ⟨rfl, below_drewN hB4 _⟩

set_option maxRecDepth 100000 in
theorem globAny_lifted (os : Os) (started : os.Started) (H : Type) (enc : TypeId × Value → H) :
    ReturnsInHanded {} Try.checked os 8 .any (Rows.globAnySpec.pre6 enc Try.prog Try.f8 Rows.globAnyRow.domain false) (Rows.globAnySpec.post enc Try.prog Try.f8 false true false false) := by
  refine returnsInHanded_of_change_sized (C := Try.checked) own_knob started (by kernel_rfl) Try.func8
    (ChangeSpec.witness6 (enc := enc) (C := Try.checked) false ⟨#[], #[.slice none 0 0, .slice none 0 0, .string ⟨#[]⟩], []⟩ 8 (by kernel_rfl) (by kernel_rfl) (by kernel_rfl) (by kernel_rfl)) ?_
  intro W base args ds gs before hval0 hW _ hsz0 _
  have hval : ∀ (j : Nat) t v, Try.f8.params[j]? = some t → args[j]? = some v → Value.okWide Try.prog W .any base t v := hval0
  have hsz : (DataW.weightsEach Try.prog (Try.f8.params.toList ++ Rows.globAnySpec.plain.varTypes Try.prog) (ds ++ gs)).all (· ≤ reachBytes) = true := hsz0
  have hW' := hW
  obtain ⟨p, q, hA0, hV, rfl, hfz, hnd⟩ := hW
  have hA : DataW.TrodAll enc Try.prog W 0 (fun _ => true) true Try.f8.params.toList args.toList ds p := hA0
  rw [Try.params8] at hA hval
  obtain ⟨v0, v1, v2, d0, d1, d2, p0, p1, p2, rfl, rfl, rfl, h0, h1, h2⟩ := trodAll_three hA
  obtain ⟨rfl, rfl⟩ := trodVars_none hV
  clear hA0 hval0 hsz0
  simp only [List.append_nil] at hW'
  have hlt := fun x hx => hW'.lt x hx
  obtain ⟨⟨xs0, hn0, hz0, hr0, hd0⟩, hback0⟩ := open_list (hval 0 22 v0 rfl rfl) h0 (fun x hx => hlt x (by simp [hx]))
  have hy0 := sized_list hsz (j := 0) (by kernel_rfl) rfl hd0
  obtain ⟨⟨xs1, hn1, hz1, hr1, hd1⟩, hback1⟩ := open_list (hval 1 22 v1 rfl rfl) h1 (fun x hx => hlt x (by simp [hx]))
  have hy1 := sized_list hsz (j := 1) (by kernel_rfl) rfl hd1
  obtain ⟨s2, rfl, rfl, rfl, ws2⟩ := Go.ChangeMaps.open_string Try.underlying9 (hval 2 9 v2 rfl rfl) h2
  refine (globAny_walk v0 xs0 hy0 hz0 v1 xs1 hy1 hz1 s2 ws2 W hr0 hr1).mono fun e W' h => ⟨.bool true, h.1, ?_⟩
  exact post_true_at hW' rfl (by kernel_rfl) Try.underlying4 rfl (by rw [List.append_assoc]; exact trodAll_mk3 (hback0 W' h.2) (hback1 W' h.2) (Go.ChangeMaps.shut_string Try.underlying9 ws2)) h.2

theorem globAny_holds : Rows.GlobAnySaid :=
  OpenClaim.holds_of_wide 8 Try.f8 rfl rfl rfl rfl rfl rfl rfl ⟨rfl, rfl, rfl, rfl, rfl⟩ rfl rfl rfl rfl rfl (by kernel_rfl) Try.func8 (by kernel_rfl)
    (of_decide_eq_true (by kernel_rfl)) (by unfold Func.isWrapper; first | (rw [if_pos (by decide +kernel)]; kernel_rfl) | (rw [if_neg (by decide +kernel)]; exact ⟨rfl, rfl⟩))
    (fun os started H enc _ => globAny_lifted os started H enc)

end Go.Proofs.Ytijpihldeaflgaa
