/-
  Whether two lists of lists of texts are the same, as the statements' own sameAll asks it.
-/
import Derived.Deep.QuietTactic
import Derived.BigQuiet
import Derived.Test.YtgnappifekacpaaGreatDoorJOpen
namespace Go.Proofs.YtgnappifekacpaaGreatDoor
open Go.RowKit Go.Shelf Go.Maps

set_option maxHeartbeats 400000 in
theorem sameAll_unlike (oa ob : Option Addr) (n m ca cb : Nat) (w : World) (h : n ≠ m) :
    Calls Tryz.prog 17 #[.slice oa n ca, .slice ob m cb] w fun e w' => e = .returned (.bool false) ∧ w = w' := by
  have e1 := nat_bne_t h
  have H := Lib.hid h; clear h
  go_enter Tryz.func17, Tryz.ntmps17
  go_wp2
  go_ret
  exact ⟨rfl, rfl⟩

set_option maxRecDepth 100000 in
set_option maxHeartbeats 4000000 in
theorem sameAll_alike (va vb : Value) (xss yss : List (List ByteArray)) (B : Nat) (w : World) (ha : ReadsLL w B va xss) (hb : ReadsLL w B vb yss) (hn : xss.length ≤ maxLen) (hm : ∀ xs ∈ xss, xs.length ≤ maxLen) (hl : xss.length = yss.length) :
    Calls Tryz.prog 17 #[va, vb] w fun e w' => e = .returned (.bool (decide (xss = yss))) ∧ ∃ n, w' = w.drewN n := by
  unfold maxLen at hn
  obtain ⟨oa, ca, rfl, hxa⟩ := ha
  obtain ⟨ob, cb, rfl, hxb⟩ := hb
  rw [← hl]
  have HA := Lib.hid hxa
  have HB := Lib.hid hxb
  have HM := Lib.hid hm
  have HL := Lib.hid hl
  clear hxa hxb hm hl
  go_enter Tryz.func17, Tryz.ntmps17
  go_wp2
  go_loopw [5] (fun i wr => ∃ k q : Nat, k ≤ xss.length ∧ i = .int .i64 k ∧ Hid (xss.take k = yss.take k) ∧ wr = w.drewN q) (fun i _ => xss.length - (intOf i).toNat)
  case atStart => exact ⟨0, 0, Nat.zero_le _, rfl, (by show _ = _; simp), rfl⟩
  case round =>
    obtain ⟨k, q, hk, rfl, HT, rfl⟩ := hrel
    by_cases hlt : k < xss.length
    · have hlt2 : k < yss.length := by rw [← HL.out]; exact hlt
      obtain ⟨ba, fa, ua, rfl, _, hca, c1, oua, cua, rfl, hua⟩ := HA.out k _ (List.getElem?_eq_getElem hlt)
      obtain ⟨bb, fb, ub, rfl, _, hcb, c2, oub, cub, rfl, hub⟩ := HB.out k _ (List.getElem?_eq_getElem hlt2)
      have hlt3 : k < ca := by omega
      have hlt4 : k < cb := by have := HL.out; omega
      have hml := HM.out _ (List.getElem_mem hlt)
      have HTn : Hid (xss[k] = yss[k] → xss.take (k + 1) = yss.take (k + 1)) := fun he => by
        rw [List.take_succ_eq_append_getElem hlt, List.take_succ_eq_append_getElem hlt2, HT.out, he]
      have HE : Hid (xss[k] ≠ yss[k] → ¬ xss = yss) := fun he h => he (by subst h; rfl)
      have HUA := Lib.hid hua
      have HUB := Lib.hid hub
      unfold maxLen at hml
      clear hua hub HT
      generalize xss[k] = xs at *
      generalize yss[k] = ys at *
      by_cases hlen : xs.length = ys.length
      · have e1 : ((xs.length : Int) != (ys.length : Int)) = false := by rw [hlen]; simp
        have HLN := Lib.hid hlen
        clear hlen
        go_wp2
        go_quiet (fail)
        go_wp2
        go_loopw [6] (fun i wr => ∃ j q2 : Nat, j ≤ xs.length ∧ i = .int .i64 j ∧ Hid (xs.take j = ys.take j) ∧ wr = w.drewN q2) (fun i _ => xs.length - (intOf i).toNat)
        case atStart => exact ⟨0, _, Nat.zero_le _, rfl, (by show _ = _; simp), World.drewN_drewN _ _ _⟩
        case round =>
          obtain ⟨j, q2, hj, rfl, HJ, rfl⟩ := hrel
          by_cases hlj : j < xs.length
          · have hlj2 : j < ys.length := by rw [← HLN.out]; exact hlj
            obtain ⟨b3, f3, rfl, _, hc3, c3⟩ := HUA.out j _ (List.getElem?_eq_getElem hlj)
            obtain ⟨b4, f4, rfl, _, hc4, c4⟩ := HUB.out j _ (List.getElem?_eq_getElem hlj2)
            have hlj3 : j < cua := by omega
            have hlj4 : j < cub := by omega
            have hlj5 : (j : Int) < (ys.length : Int) := by omega
            by_cases he : xs[j] = ys[j]
            · have h1 := str_ne_f he
              have HJ1 : Hid (xs.take (j + 1) = ys.take (j + 1)) := by
                show _ = _
                rw [List.take_succ_eq_append_getElem hlj, List.take_succ_eq_append_getElem hlj2, HJ.out, he]
              clear he
              generalize xs[j] = a at c3 h1
              generalize ys[j] = b at c4 h1
              go_wp2
              go_quiet (fail)
              go_wp2
              go_roundw
              case rel => exact ⟨j + 1, _, hlj, by go_num, HJ1, rfl⟩
              case measure => simp [intOf]; omega
            · have h1 := str_ne_t he
              have HN : Hid (¬ xss = yss) := HE.out fun h => he (by subst h; rfl)
              clear he
              generalize xs[j] = a at c3 h1
              generalize ys[j] = b at c4 h1
              go_wp2
              go_quiet (fail)
              go_wp2
              go_ret
              exact ⟨ret_bool (by simp [HN.out]), _, World.drewN_drewN _ _ _⟩
          · have HN : Hid (xss.take (k + 1) = yss.take (k + 1)) := HTn.out (by
              have := HJ.out
              rw [List.take_of_length_le (by omega), List.take_of_length_le (by rw [← HLN.out]; omega)] at this
              exact this)
            go_wp2
            go_roundw
            case rel => exact ⟨k + 1, _, hlt, by go_num, HN, rfl⟩
            case measure => simp [intOf]; omega
      · have e1 : ((xs.length : Int) != (ys.length : Int)) = true := nat_bne_t hlen
        have HN : Hid (¬ xss = yss) := HE.out fun h => hlen (by rw [h])
        clear hlen
        go_wp2
        go_quiet (fail)
        go_wp2
        go_ret
        exact ⟨ret_bool (by simp [HN.out]), _, World.drewN_drewN _ _ _⟩
    · have HN : Hid (xss = yss) := by
        show xss = yss
        have := HT.out
        rw [List.take_of_length_le (by omega), List.take_of_length_le (by rw [← HL.out]; omega)] at this
        exact this
      go_wp2
      go_ret
      exact ⟨ret_bool (by simp [HN.out]), q, rfl⟩

theorem sameAll_any (va vb : Value) (xss yss : List (List ByteArray)) (B : Nat) (w : World) (ha : ReadsLL w B va xss) (hb : ReadsLL w B vb yss) (hn : xss.length ≤ maxLen) (hm : ∀ xs ∈ xss, xs.length ≤ maxLen) :
    Calls Tryz.prog 17 #[va, vb] w fun e w' => e = .returned (.bool (decide (xss = yss))) ∧ Below w.heap.size w w' := by
  by_cases hl : xss.length = yss.length
  · exact (sameAll_alike va vb xss yss B w ha hb hn hm hl).mono fun e w' h => ⟨h.1, by obtain ⟨n, h⟩ := h.2; rw [h]; exact below_drewN (Below.refl _ _) n⟩
  · obtain ⟨oa, ca, rfl, _⟩ := ha
    obtain ⟨ob, cb, rfl, _⟩ := hb
    refine (sameAll_unlike oa ob _ _ ca cb w hl).mono fun e w' h => ⟨?_, h.2 ▸ Below.refl _ _⟩
    rw [h.1]
    exact ret_bool (by symm; simp; rintro rfl; exact hl rfl)

end Go.Proofs.YtgnappifekacpaaGreatDoor
