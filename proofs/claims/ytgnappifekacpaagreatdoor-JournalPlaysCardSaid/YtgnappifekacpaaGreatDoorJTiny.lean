/-
  What the statements' own tiny answers.
-/
import Derived.Deep.QuietTactic
import Derived.BigQuiet
import Derived.Test.YtgnappifekacpaaGreatDoorJOpen
namespace Go.Proofs.YtgnappifekacpaaGreatDoor
open Go.RowKit Go.Shelf Go.Maps

def tiny1 (l : List ByteArray) : Bool := decide (l.length ≤ 45) && l.all fun x => decide (x.size ≤ 60)
def tinyB (xss : List (List ByteArray)) : Bool := decide (xss.length ≤ 20) && xss.all tiny1
def TinyPost (xss : List (List ByteArray)) (w : World) (e : Ending) (w' : World) : Prop := e = .returned (.bool (tinyB xss)) ∧ w = w'
theorem tiny_no {xss : List (List ByteArray)} {l : List ByteArray} (h : l ∈ xss) (ht : tiny1 l = false) : tinyB xss = false := by
  unfold tinyB
  rw [show xss.all tiny1 = false from by rw [List.all_eq_false]; exact ⟨l, h, by simp [ht]⟩, Bool.and_false]
theorem tiny_all {xss : List (List ByteArray)} (h : tinyB xss = true) : xss.length ≤ 20 ∧ ∀ l ∈ xss, l.length ≤ 45 ∧ ∀ x ∈ l, x.size ≤ 60 := by
  simp only [tinyB, Bool.and_eq_true, decide_eq_true_eq, List.all_eq_true, tiny1] at h
  exact h

set_option maxRecDepth 100000 in
set_option maxHeartbeats 4000000 in
theorem tiny_any (v : Value) (xss : List (List ByteArray)) (B : Nat) (w : World) (hr : ReadsLL w B v xss) (hn : xss.length ≤ maxLen) (hm : ∀ l ∈ xss, l.length ≤ maxLen ∧ ∀ x ∈ l, x.size ≤ maxLen) : Calls Tryz.prog 29 #[v] w (TinyPost xss w) := by
  unfold maxLen at hn
  obtain ⟨o, c, rfl, hx⟩ := hr
  have HX := Lib.hid hx
  have HM := Lib.hid hm
  clear hx hm
  by_cases h12 : 20 < xss.length
  · have e1 : decide (20 < (xss.length : Int)) = true := by simp; omega
    have HN : Hid (TinyPost xss w (.returned (.bool false)) w) := ⟨by simp [tinyB]; omega, rfl⟩
    clear HM
    go_enter Tryz.func29, Tryz.ntmps29
    go_wp2
    go_ret
    exact HN.out
  have e1 : decide (20 < (xss.length : Int)) = false := by simp; omega
  go_enter Tryz.func29, Tryz.ntmps29
  go_wp2
  go_loop [3] (fun i => ∃ k : Nat, k ≤ xss.length ∧ i = .int .i64 k ∧ Hid ((xss.take k).all tiny1 = true)) (fun i => xss.length - (intOf i).toNat)
  case atStart => exact ⟨0, Nat.zero_le _, rfl, by show _ = _; simp⟩
  case round =>
    obtain ⟨k, hk, rfl, HA⟩ := hrel
    by_cases hlt : k < xss.length
    · obtain ⟨b, f, u, rfl, _, hkc, hcell, hu⟩ := HX.out k xss[k] (List.getElem?_eq_getElem hlt)
      obtain ⟨uo, uc, rfl, hux⟩ := hu
      have hkc' : k < c := by omega
      obtain ⟨hlm, hxm⟩ := HM.out _ (List.getElem_mem hlt)
      have hnx : (xss.take (k + 1)).all tiny1 = tiny1 xss[k] := by
        rw [List.take_succ_eq_append_getElem hlt, List.all_append, HA.out]; simp
      have hno := fun h => tiny_no (List.getElem_mem hlt) h
      unfold maxLen at hlm
      generalize xss[k] = l at *
      have HU := Lib.hid hux
      have HNX := Lib.hid hnx
      have HNO := Lib.hid hno
      have HXM := Lib.hid hxm
      clear hux hnx hno hxm
      by_cases h50 : 45 < l.length
      · have e2 : decide (45 < (l.length : Int)) = true := by simp; omega
        have HN : Hid (TinyPost xss w (.returned (.bool false)) w) := ⟨by rw [HNO.out (by simp [tiny1]; omega)], rfl⟩
        go_wp2
        go_ret
        exact HN.out
      have e2 : decide (45 < (l.length : Int)) = false := by simp; omega
      go_wp2
      go_loop [4] (fun i => ∃ j : Nat, j ≤ l.length ∧ i = .int .i64 j ∧ Hid ((l.take j).all (fun x => decide (x.size ≤ 60)) = true)) (fun i => l.length - (intOf i).toNat)
      case atStart => exact ⟨0, Nat.zero_le _, rfl, by show _ = _; simp⟩
      case round =>
        obtain ⟨j, hj, rfl, HJ⟩ := hrel
        by_cases hlt2 : j < l.length
        · obtain ⟨b2, f2, rfl, _, hjc, hcell2⟩ := HU.out j l[j] (List.getElem?_eq_getElem hlt2)
          have hjc' : j < uc := by omega
          have hxz := HXM.out l[j] (List.getElem_mem hlt2)
          unfold maxLen at hxz
          by_cases h60 : 60 < l[j].size
          · have e3 : decide (60 < (l[j].size : Int)) = true := by simp; omega
            have HN : Hid (TinyPost xss w (.returned (.bool false)) w) := by
              refine ⟨?_, rfl⟩
              rw [HNO.out]
              have : l.all (fun x => decide (x.size ≤ 60)) = false := by
                rw [List.all_eq_false]; exact ⟨l[j], List.getElem_mem hlt2, by simp; omega⟩
              simp [tiny1, this]
            generalize l[j] = x at *
            go_wp2
            go_ret
            exact HN.out
          · have e3 : decide (60 < (l[j].size : Int)) = false := by simp; omega
            have HN : Hid ((l.take (j + 1)).all (fun x => decide (x.size ≤ 60)) = true) := by
              show _ = _
              rw [List.take_succ_eq_append_getElem hlt2, List.all_append, HJ.out]
              simp; omega
            generalize l[j] = x at *
            go_wp2
            go_round
            case rel => exact ⟨j + 1, hlt2, by go_num, HN⟩
            case measure => simp [intOf]; omega
        · have HN : Hid ((xss.take (k + 1)).all tiny1 = true) := by
            show _ = _
            have := HJ.out
            rw [List.take_of_length_le (by omega)] at this
            rw [HNX.out]
            simp only [tiny1, this, Bool.and_true, decide_eq_true_eq]; omega
          go_wp2
          go_round
          case rel => exact ⟨k + 1, hlt, by go_num, HN⟩
          case measure => simp [intOf]; omega
    · have HN : Hid (TinyPost xss w (.returned (.bool true)) w) := by
        refine ⟨?_, rfl⟩
        have := HA.out
        rw [List.take_of_length_le (by omega)] at this
        simp [tinyB, this]; omega
      go_wp2
      go_ret
      exact HN.out

end Go.Proofs.YtgnappifekacpaaGreatDoor
