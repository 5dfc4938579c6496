/-
  CallAnswers, the walk: it answers true for every name and all arguments. No condition.
-/
import Derived.Deep.QuietTactic
import Derived.BigQuiet
import Derived.WalkSpells
import Derived.Test.YtfdlcmjjnoapfaaGreatDoorOM
namespace Go.Proofs.YtfdlcmjjnoapfaaGreatDoor
open Go.RowKit Go.Shelf
attribute [local go_sem] Oper.semAt_some

theorem reads_cells {W : World} {B : Nat} {o : Option Addr} {n c : Nat} {xs : List ByteArray} (h : ReadsO W B (.slice o n c) xs) (hB : B ≤ W.heap.size) : n = xs.length ∧ CellsW W o c (xs.map fun x => x.data.toList) := by
  obtain ⟨o', c', hv, hx⟩ := h
  cases hv
  refine ⟨rfl, fun k x hk => ?_⟩
  rw [List.getElem?_map] at hk
  obtain ⟨y, hy, rfl⟩ := Option.map_eq_some_iff.1 hk
  obtain ⟨b, f, h1, h2, h3, h4⟩ := hx k y hy
  exact ⟨b, f, h1, Nat.lt_of_lt_of_le h2 hB, by rw [List.length_map]; exact h3, by rw [txt_toList]; exact h4⟩
set_option maxRecDepth 100000 in
set_option maxHeartbeats 4000000 in
theorem callAnswers_walk (s0 : ByteArray) (hs0 : s0.size ≤ maxLen) (v1 : Value) (xs1 : List ByteArray) (hn1 : xs1.length ≤ maxLen) (_hz1 : ∀ x ∈ xs1, x.size ≤ maxLen) (w : World) (hst : Std w) (hr : ReadsO w w.heap.size v1 xs1) :
    Calls Tryz.prog 3 #[.string s0, v1] w (LawPost w) := by
  have HSh := Lib.hid (shown_any w hst)
  have hn2 := hn1
  have HR := Lib.hid hr
  have HSm : Hid (∀ W, Below w.heap.size w W → Calls Tryz.prog 13 #[v1] W fun e w' => e = .returned (.bool (smallB xs1)) ∧ W = w') := fun W hb => small_any v1 xs1 w.heap.size W (HR.out.below hb (Nat.le_refl _)) hn1
  obtain ⟨o, n, c, rfl⟩ : ∃ o n c, v1 = .slice o n c := by
    obtain ⟨o', c', hv, _⟩ := hr
    exact ⟨o', _, c', hv⟩
  unfold maxLen at hs0 hn2
  have hnn : n ≤ 8796093022207 ∨ True := .inr trivial
  clear hnn hn1 hn2
  cases hsm : smallB xs1 with
  | false =>
    rw [hsm] at HSm
    clear hst hr HR hsm
    go_enter Tryz.func3, Tryz.ntmps3
    go_wp2_with fail
    refine HSh.out.mono ?_
    rintro e w1 ⟨rfl, hb1⟩
    go_wp2_with fail
    refine (HSm.out w1 hb1).mono ?_
    rintro e w2 ⟨rfl, rfl⟩
    go_wp2_with fail
    go_ret
    exact ⟨rfl, hb1⟩
  | true =>
    rw [hsm] at HSm
    by_cases h50 : 50 < s0.size
    · clear hst hr HR hsm
      have h51 : (50 : Int) < (s0.size : Int) := by omega
      go_enter Tryz.func3, Tryz.ntmps3
      go_wp2_with fail
      refine HSh.out.mono ?_
      rintro e w1 ⟨rfl, hb1⟩
      go_wp2_with fail
      refine (HSm.out w1 hb1).mono ?_
      rintro e w2 ⟨rfl, rfl⟩
      go_wp2_with fail
      go_ret
      exact ⟨rfl, hb1⟩
    · have h51 : ¬ (50 : Int) < (s0.size : Int) := by omega
      have hz6 : ∀ x ∈ xs1, x.size ≤ 600 := by
        unfold smallB at hsm
        simp only [Bool.and_eq_true, List.all_eq_true, decide_eq_true_eq] at hsm
        exact hsm.2
      obtain ⟨hnx, hcell⟩ := reads_cells hr (Nat.le_refl _)
      have HSt := Lib.hid hst
      have HC1 : Hid (∀ W, Below w.heap.size w W → Calls Tryz.prog 14 #[.string s0, .slice o n c] W (CallPost s0.data.toList (xs1.map fun x => x.data.toList) W)) := fun W hb =>
        call_any s0 _ xs1 (fun y hy => by have := hz6 y hy; omega) W (HSt.out.below hb) (HR.out.below hb hb.size)
      have HC2 : Hid (∀ W, Below w.heap.size w W → Calls Tryz.prog 15 #[.string s0, .slice o n c] W (CallPost s0.data.toList (xs1.map fun x => x.data.toList) W)) := fun W hb => by
        have := call10_any s0 o c (xs1.map fun x => x.data.toList) (fun x hx => by
          obtain ⟨y, hy, rfl⟩ := List.mem_map.1 hx
          have := hz6 y hy
          rw [size_list]; omega) W (hcell.below hb)
        rwa [List.length_map, ← hnx] at this
      unfold CallPost at HC1 HC2
      have HM1 := Lib.hid (many_any s0)
      have HM2 := Lib.hid (many10_any s0)
      generalize manyOf s0.data.toList = mv at HM1 HM2
      obtain ⟨r, hr9⟩ : ∃ r, r = txt (callT s0.data.toList (xs1.map fun x => x.data.toList)).1 := ⟨_, rfl⟩
      obtain ⟨q, hq9⟩ : ∃ q, q = (callT s0.data.toList (xs1.map fun x => x.data.toList)).2 := ⟨_, rfl⟩
      rw [← hr9, ← hq9] at HC1 HC2
      clear hst hr hsm hz6 hnx hcell hr9 hq9 HR HSt
      have t1 : (r.toList == r.toList) = true := by simp
      have t2 : (q == q) = true := by simp
      have t3 : (mv == mv) = true := by simp
      go_enter Tryz.func3, Tryz.ntmps3
      go_wp2_with fail
      refine HSh.out.mono ?_
      rintro e w1 ⟨rfl, hb1⟩
      go_wp2_with fail
      refine (HSm.out w1 hb1).mono ?_
      rintro e w2 ⟨rfl, rfl⟩
      go_wp2_with fail
      refine (HC1.out w1 hb1).mono ?_
      rintro e w2 ⟨rfl, hb2⟩
      have hb12 := hb1.trans (hb2.mono hb1.size)
      go_wp2_with fail
      refine (HC2.out w2 hb12).mono ?_
      rintro e w3 ⟨rfl, hb3⟩
      have HB := Lib.hid (hb12.trans (hb3.mono hb12.size))
      clear hb1 hb2 hb3 hb12
      go_wp2_with fail
      refine (HM1.out w3).mono ?_
      rintro e w4 ⟨rfl, rfl⟩
      go_wp2_with fail
      refine (HM2.out w3).mono ?_
      rintro e w4 ⟨rfl, rfl⟩
      go_wp2_with fail
      go_ret
      exact ⟨rfl, HB.out⟩
end Go.Proofs.YtfdlcmjjnoapfaaGreatDoor
