/-
  LexTabs: a line of a recipe is told whole, comments and all, but for blanks at its ends; another one is told up to its comment: for every argument. No condition.
-/
import Derived.Deep.RegionHeld3
import Derived.Deep.QuietTactic
import Derived.BigQuiet
import Derived.Test.YtmonbnmjbgdkoaaDoorES
namespace Go.Proofs.YtmonbnmjbgdkoaaDoor
open Go.RowKit

set_option maxRecDepth 100000 in
set_option maxHeartbeats 16000000 in
theorem lexTabs_over (HL : LexC) (s0 : ByteArray) (_hs0 : s0.size ≤ maxLen) (s1 : ByteArray) (_hs1 : s1.size ≤ maxLen) (w : World) :
    Calls Tryd.prog 6 #[.string s0, .string s1] w (LawPost w) := by
  have HSh := Lib.hid (shown_at HL w)
  have hb0 : Below w.heap.size w w := Below.refl _ _
  by_cases h0 : 300 < s0.size
  · have d0 : decide (300 < (s0.size : Int)) = true := by simp; omega
    clear h0 HL
    go_enter Tryd.func6, Tryd.ntmps6
    go_wp2_with (go_at_call 8; refine (HSh.out _ hb0).mono ?_; rintro e w2 ⟨rfl, hb2⟩)
    go_ret
    exact ⟨rfl, hb2⟩
  have d0 : decide (300 < (s0.size : Int)) = false := by simp; omega
  have n0 : s0.size ≤ 300 := by omega
  clear h0
  by_cases h1 : 300 < s1.size
  · have d1 : decide (300 < (s1.size : Int)) = true := by simp; omega
    clear h1 HL
    go_enter Tryd.func6, Tryd.ntmps6
    go_wp2_with (go_at_call 8; refine (HSh.out _ hb0).mono ?_; rintro e w2 ⟨rfl, hb2⟩)
    go_ret
    exact ⟨rfl, hb2⟩
  have d1 : decide (300 < (s1.size : Int)) = false := by simp; omega
  have n1 : s1.size ≤ 300 := by omega
  clear h1
  go_enter Tryd.func6, Tryd.ntmps6
  go_wp2_with (go_at_call 8; refine (HSh.out _ hb0).mono ?_; rintro e w2 ⟨rfl, hb2⟩)
  clear HSh hb0
  obtain ⟨sa, hsa'⟩ : ∃ sa, sa = s0 ++ s1 := ⟨_, rfl⟩
  rw [← hsa']
  have hsz : sa.size ≤ 600 := by rw [hsa', ByteArray.size_append]; omega
  have HSA := Lib.hid hsa'
  clear hsa'
  go_loop [7] (fun i => ∃ k : Nat, k ≤ sa.size ∧ i = .int .i64 k ∧ Hid ((∀ x ∈ sa.data.toList.take k, x ≠ 10 ∧ x ≠ 92) ∧ ∀ x ∈ s0.data.toList.take k, x ≠ 35)) (fun i => sa.size - (intOf i).toNat)
  case atStart => exact ⟨0, Nat.zero_le _, rfl, (by intro x hx; simp at hx), (by intro x hx; simp at hx)⟩
  case round =>
    obtain ⟨k, hk, rfl, HN⟩ := hrel
    by_cases hlt : k < sa.size
    · have hik : (k : Int) < (sa.size : Int) := by omega
      have hi0 : (0 : Int) ≤ (k : Int) := by omega
      by_cases t10 : sa[k].toNat = 10
      · have e10 : ((sa[k].toNat : Int) == 10) = true := by simp; omega
        clear t10 HN HSA
        go_wp2
        go_ret
        exact ⟨rfl, hb2⟩
      have e10 : ((sa[k].toNat : Int) == 10) = false := by simp; omega
      by_cases t92 : sa[k].toNat = 92
      · have e92 : ((sa[k].toNat : Int) == 92) = true := by simp; omega
        clear t10 t92 HN HSA
        go_wp2
        go_ret
        exact ⟨rfl, hb2⟩
      have e92 : ((sa[k].toNat : Int) == 92) = false := by simp; omega
      have HN2 : Hid (∀ x ∈ sa.data.toList.take (k + 1), x ≠ 10 ∧ x ≠ 92) := byte_next HN.out.1 hlt ⟨ne_of (n := 10) (by decide) t10, ne_of (n := 92) (by decide) t92⟩
      by_cases hks : k < s0.size
      · have dks : decide ((k : Int) < (s0.size : Int)) = true := by simp; omega
        have nks : (k : Int) < (s0.size : Int) := by omega
        by_cases t35 : sa[k].toNat = 35
        · have e35 : ((sa[k].toNat : Int) == 35) = true := by simp; omega
          clear t10 t92 t35 HN HN2 HSA hks
          go_wp2
          go_ret
          exact ⟨rfl, hb2⟩
        have e35 : ((sa[k].toNat : Int) == 35) = false := by simp; omega
        have HM2 : Hid (∀ x ∈ s0.data.toList.take (k + 1), x ≠ 35) := byte_next HN.out.2 hks (by rw [← app_at HSA.out hks hlt]; exact ne_of (n := 35) (by decide) t35)
        clear t10 t92 t35 HN hks
        go_wp2
        go_round
        case rel => exact ⟨k + 1, hlt, by go_num, HN2.out, HM2.out⟩
        case measure => simp [intOf]; omega
      · have dks : decide ((k : Int) < (s0.size : Int)) = false := by simp; omega
        have nks : ¬ (k : Int) < (s0.size : Int) := by omega
        have HM2 : Hid (∀ x ∈ s0.data.toList.take (k + 1), x ≠ 35) := by
          have h := HN.out.2
          rw [List.take_of_length_le (by rw [size_of]; omega)] at h
          show ∀ x ∈ _, _
          rw [List.take_of_length_le (by rw [size_of]; omega)]
          exact h
        clear t10 t92 HN hks
        go_wp2
        go_round
        case rel => exact ⟨k + 1, hlt, by go_num, HN2.out, HM2.out⟩
        case measure => simp [intOf]; omega
    · have hkn : k = sa.size := by omega
      have HS : Hid (∀ x ∈ (s0 ++ s1).data.toList, x ≠ 10 ∧ x ≠ 92) := by
        show ∀ x ∈ _, _
        have h := HN.out.1
        rw [hkn] at h
        rw [← HSA.out]
        exact byte_all h
      have HM : Hid (∀ x ∈ s0.data.toList, x ≠ 35) := by
        have h := HN.out.2
        rw [List.take_of_length_le (by rw [size_of, hkn, HSA.out, ByteArray.size_append]; omega)] at h
        exact h
      have hik : ¬ (k : Int) < (sa.size : Int) := by omega
      clear HN hlt hk HSA
      by_cases x0 : s0.toList = []
      · have f0 : s0.toList.isEmpty = true := by simpa using x0
        clear x0 HS HM HL
        go_wp2
        go_ret
        exact ⟨rfl, hb2⟩
      have f0 : s0.toList.isEmpty = false := by simpa using x0
      have hp0 : 0 < s0.size := by rw [← size_of]; rw [Lib.toList_data] at x0; exact List.length_pos_iff.2 x0
      have hm0 : (0 : Int) ≤ (s0.size : Int) - 1 := by omega
      by_cases y0 : s0[0].toNat = 32
      · have gy0 : ((s0[0].toNat : Int) == 32) = true := by simp; omega
        clear y0 x0 HS HM HL
        go_wp2
        go_ret
        exact ⟨rfl, hb2⟩
      have gy0 : ((s0[0].toNat : Int) == 32) = false := by simp; omega
      by_cases y1 : s0[0].toNat = 9
      · have gy1 : ((s0[0].toNat : Int) == 9) = true := by simp; omega
        clear y1 x0 HS HM HL
        go_wp2
        go_ret
        exact ⟨rfl, hb2⟩
      have gy1 : ((s0[0].toNat : Int) == 9) = false := by simp; omega
      by_cases y2 : s0[s0.size - 1].toNat = 32
      · have gy2 : ((s0[s0.size - 1].toNat : Int) == 32) = true := by simp; omega
        clear y2 x0 HS HM HL
        go_wp2
        go_ret
        exact ⟨rfl, hb2⟩
      have gy2 : ((s0[s0.size - 1].toNat : Int) == 32) = false := by simp; omega
      by_cases y3 : s0[s0.size - 1].toNat = 9
      · have gy3 : ((s0[s0.size - 1].toNat : Int) == 9) = true := by simp; omega
        clear y3 x0 HS HM HL
        go_wp2
        go_ret
        exact ⟨rfl, hb2⟩
      have gy3 : ((s0[s0.size - 1].toNat : Int) == 9) = false := by simp; omega
      have ha0 : s0.data.toList ≠ [] := by rw [← Lib.toList_data]; exact x0
      have hla : ∀ x, s0.data.toList.getLast? = some x → blankB x = false := fun x hx => by
        have h1 : s0.data.toList[s0.data.toList.length - 1]? = some x := by rw [← List.getLast?_eq_getElem?]; exact hx
        rw [size_of] at h1
        have h2 : s0.data.toList[s0.size - 1]? = some s0[s0.size - 1] := by rw [List.getElem?_eq_getElem (by rw [size_of]; omega), Array.getElem_toList]; rfl
        rw [h2] at h1
        cases h1
        exact blank_not y2 y3
      have hlb : ∀ x, s0.data.toList.head? = some x → blankB x = false := fun x hx => by
        have h1 : s0.data.toList[0]? = some x := by rw [← List.head?_eq_getElem?]; exact hx
        have h2 : s0.data.toList[0]? = some s0[0] := by rw [List.getElem?_eq_getElem (by rw [size_of]; omega), Array.getElem_toList]; rfl
        rw [h2] at h1
        cases h1
        exact blank_not y0 y1
      have HS0 : Hid (∀ x ∈ s0.data.toList, x ≠ 10 ∧ x ≠ 92 ∧ x ≠ 35) := fun x hx => by
        have h1 := HS.out x (by rw [list_app]; exact List.mem_append_left _ hx)
        exact ⟨h1.1, h1.2, HM.out x hx⟩
      have HC : Hid (∀ x ∈ s1.data.toList, x ≠ 10 ∧ x ≠ 92) := fun x hx => HS.out x (by rw [list_app]; exact List.mem_append_right _ hx)
      clear x0 y0 y1 y2 y3 HS HM
      go_wp2
      go_loop [8] (fun v => ∃ y : ByteArray, v = .string y ∧ Hid (cutR y.data.toList = cutR s1.data.toList) ∧ y.size ≤ s1.size) (fun v => strLen v)
      case atStart => exact ⟨s1, rfl, (by show _ = _; rfl), Nat.le_refl _⟩
      case round =>
        obtain ⟨y, rfl, HY, hys⟩ := hrel
        by_cases y0 : y.toList = []
        · have f2 : y.toList.isEmpty = true := by simpa using y0
          have HYE : Hid (y.data.toList = cutR s1.data.toList) := by
            show _ = _
            rw [Lib.toList_data] at y0
            rw [← HY.out, y0]; rfl
          clear y0 HY
          have hE := tabs_law HS0.out HC.out ha0 ⟨hlb, hla⟩ (by rw [size_of]; omega) (by rw [size_of]; omega)
          have hx0 : txt (s0.data.toList ++ 32 :: 35 :: cutR s1.data.toList) = s0 ++ ⟨#[32, 35]⟩ ++ y := txt_of (by rw [list_app, list_app, HYE.out]; simp)
          have hx1 : txt s0.data.toList = s0 := txt_toList s0
          have HX : Hid (∀ z W, z.data.toList = 9 :: (s0.data.toList ++ 32 :: 35 :: (s1.data.toList ++ 10 :: (s0.data.toList ++ 32 :: 35 :: (s1.data.toList ++ [10])))) → Calls Tryd.prog 9 #[.string z] W fun e w' => ∃ o c, e = .returned (.tuple #[.slice o 2 c, .int .i64 0, .int .i64 0]) ∧ ReadsI w' w'.heap.size (.slice o 2 c) [(1, true, s0.data.toList ++ 32 :: 35 :: cutR s1.data.toList), (2, false, s0.data.toList)] ∧ Below W.heap.size W w') := fun z W hz => by
            have := HL.of _ (by simp; omega) z W hz
            unfold LexPost at this
            rw [hE] at this
            exact this
          clear HL hE ha0 hla hlb HS0 HC HYE
          go_wp2_with fail
          refine (HX.out _ _ ?hz1).mono ?_
          case hz1 => simp
          rintro e w5 ⟨o, c, rfl, hr, hb5⟩
          replace hb5 := hb2.trans (hb5.mono hb2.size)
          obtain ⟨b, f, rfl, hc, h0⟩ := hr.at (k := 0) rfl
          obtain ⟨b', f', e1, _, h1⟩ := hr.at (k := 1) rfl
          cases e1
          obtain ⟨x0, x1, x2⟩ := h0 w5 (Below.refl _ _)
          obtain ⟨x3, x4, x5⟩ := h1 w5 (Below.refl _ _)
          simp only [Nat.zero_mul, Nat.add_zero, Nat.one_mul, Nat.add_assoc, Nat.reduceAdd, hx0, hx1] at x0 x1 x2 x3 x4 x5
          replace x0 : w5.cell? ⟨b, f, none⟩ = some (.int .i64 1) := x0
          replace x3 : w5.cell? ⟨b, f + 3, none⟩ = some (.int .i64 2) := x3
          have hc2 : 2 ≤ c := hc
          clear HX hr h0 h1 hc hx0 hx1
          go_wp2
          go_ret
          exact ⟨rfl, hb5⟩
        · have f2 : y.toList.isEmpty = false := by simpa using y0
          have hp2 : 0 < y.size := by rw [← size_of]; rw [Lib.toList_data] at y0; exact List.length_pos_iff.2 y0
          have hm2 : (0 : Int) ≤ (y.size : Int) - 1 := by omega
          have hlast := list_last y hp2
          by_cases hbl : y[y.size - 1].toNat = 32 ∨ y[y.size - 1].toNat = 9
          · have HN : Hid (cutR (y.extract 0 (y.size - 1)).data.toList = cutR s1.data.toList ∧ (y.extract 0 (y.size - 1)).size = y.size - 1) := by
              refine ⟨?_, ?_⟩
              · rw [Lib.extract_data, List.drop_zero, Nat.sub_zero]
                have := HY.out
                rw [hlast, cutR_snoc, if_pos (by unfold blankB; simpa using hbl)] at this
                exact this
              · rw [ByteArray.size_extract]; omega
            clear hlast y0 HY
            by_cases h32 : y[y.size - 1].toNat = 32
            · have e32 : ((y[y.size - 1].toNat : Int) == 32) = true := by simp; omega
              clear h32 hbl
              go_wp2
              go_round
              case rel => exact ⟨_, rfl, HN.out.1, by rw [HN.out.2]; omega⟩
              case measure => simp only [strLen]; rw [HN.out.2]; omega
            · have e32 : ((y[y.size - 1].toNat : Int) == 32) = false := by simp; omega
              have e9 : ((y[y.size - 1].toNat : Int) == 9) = true := by simp; omega
              clear h32 hbl
              go_wp2
              go_round
              case rel => exact ⟨_, rfl, HN.out.1, by rw [HN.out.2]; omega⟩
              case measure => simp only [strLen]; rw [HN.out.2]; omega
          · have HYE : Hid (y.data.toList = cutR s1.data.toList) := by
              show _ = _
              rw [← HY.out]
              conv => rhs; rw [hlast]
              rw [cutR_snoc, if_neg (by unfold blankB; simpa using hbl), ← hlast]
            have e32 : ((y[y.size - 1].toNat : Int) == 32) = false := by simp; omega
            have e9 : ((y[y.size - 1].toNat : Int) == 9) = false := by simp; omega
            clear hlast y0 HY hbl
            have hE := tabs_law HS0.out HC.out ha0 ⟨hlb, hla⟩ (by rw [size_of]; omega) (by rw [size_of]; omega)
            have hx0 : txt (s0.data.toList ++ 32 :: 35 :: cutR s1.data.toList) = s0 ++ ⟨#[32, 35]⟩ ++ y := txt_of (by rw [list_app, list_app, HYE.out]; simp)
            have hx1 : txt s0.data.toList = s0 := txt_toList s0
            have HX : Hid (∀ z W, z.data.toList = 9 :: (s0.data.toList ++ 32 :: 35 :: (s1.data.toList ++ 10 :: (s0.data.toList ++ 32 :: 35 :: (s1.data.toList ++ [10])))) → Calls Tryd.prog 9 #[.string z] W fun e w' => ∃ o c, e = .returned (.tuple #[.slice o 2 c, .int .i64 0, .int .i64 0]) ∧ ReadsI w' w'.heap.size (.slice o 2 c) [(1, true, s0.data.toList ++ 32 :: 35 :: cutR s1.data.toList), (2, false, s0.data.toList)] ∧ Below W.heap.size W w') := fun z W hz => by
              have := HL.of _ (by simp; omega) z W hz
              unfold LexPost at this
              rw [hE] at this
              exact this
            clear HL hE ha0 hla hlb HS0 HC HYE
            go_wp2_with fail
            refine (HX.out _ _ ?hz1).mono ?_
            case hz1 => simp
            rintro e w5 ⟨o, c, rfl, hr, hb5⟩
            replace hb5 := hb2.trans (hb5.mono hb2.size)
            obtain ⟨b, f, rfl, hc, h0⟩ := hr.at (k := 0) rfl
            obtain ⟨b', f', e1, _, h1⟩ := hr.at (k := 1) rfl
            cases e1
            obtain ⟨x0, x1, x2⟩ := h0 w5 (Below.refl _ _)
            obtain ⟨x3, x4, x5⟩ := h1 w5 (Below.refl _ _)
            simp only [Nat.zero_mul, Nat.add_zero, Nat.one_mul, Nat.add_assoc, Nat.reduceAdd, hx0, hx1] at x0 x1 x2 x3 x4 x5
            replace x0 : w5.cell? ⟨b, f, none⟩ = some (.int .i64 1) := x0
            replace x3 : w5.cell? ⟨b, f + 3, none⟩ = some (.int .i64 2) := x3
            have hc2 : 2 ≤ c := hc
            clear HX hr h0 h1 hc hx0 hx1
            go_wp2
            go_ret
            exact ⟨rfl, hb5⟩

end Go.Proofs.YtmonbnmjbgdkoaaDoor
