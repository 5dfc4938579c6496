/-
  What the statements' own function small answers of a list of texts: whether there are at most 6, none longer than 600 bytes.
-/
import Derived.Test.YtfdlcmjjnoapfaaGreatDoorOK
namespace Go.Proofs.YtfdlcmjjnoapfaaGreatDoor
open Go.RowKit Go.Shelf

def smallB (xs : List ByteArray) : Bool := decide (xs.length ≤ 6) && xs.all (fun x => decide (x.size ≤ 600))
def SmallPost (xs : List ByteArray) (w : World) (e : Ending) (w' : World) : Prop := e = .returned (.bool (smallB xs)) ∧ w = w'

set_option maxRecDepth 100000 in
set_option maxHeartbeats 2000000 in
theorem small_any (v : Value) (xs : List ByteArray) (B : Nat) (w : World) (hr : ReadsO w B v xs) (hn : xs.length ≤ maxLen) : Calls Tryz.prog 13 #[v] w (SmallPost xs w) := by
  unfold maxLen at hn
  obtain ⟨o, c, rfl, hx⟩ := hr
  have HX := Lib.hid hx
  clear hx
  by_cases h40 : 6 < xs.length
  · have e1 : decide (6 < (xs.length : Int)) = true := by simp; omega
    have HN : Hid (SmallPost xs w (.returned (.bool false)) w) := ⟨by simp [smallB]; omega, rfl⟩
    go_enter Tryz.func13, Tryz.ntmps13
    go_wp2
    go_ret
    exact HN.out
  · have e1 : decide (6 < (xs.length : Int)) = false := by simp; omega
    go_enter Tryz.func13, Tryz.ntmps13
    go_wp2
    go_loop [3] (fun i => ∃ k : Nat, k ≤ xs.length ∧ i = .int .i64 k ∧ (xs.take k).all (fun x => decide (x.size ≤ 600)) = true) (fun i => xs.length - (intOf i).toNat)
    case atStart => exact ⟨0, Nat.zero_le _, rfl, rfl⟩
    case round =>
      obtain ⟨k, hk, rfl, hall⟩ := hrel
      have HA := Lib.hid hall
      clear hall
      by_cases hlt : k < xs.length
      · obtain ⟨b, f, rfl, _, hkc, hcell⟩ := HX.out k xs[k] (List.getElem?_eq_getElem hlt)
        have hkc' : k < c := by omega
        by_cases h3 : 600 < xs[k].size
        · have e3 : decide (600 < (xs[k].size : Int)) = true := by simp; omega
          have HN : Hid (SmallPost xs w (.returned (.bool false)) w) := by
            refine ⟨?_, rfl⟩
            have : xs.all (fun x => decide (x.size ≤ 600)) = false := by
              rw [List.all_eq_false]; exact ⟨xs[k], List.getElem_mem hlt, by simp; omega⟩
            simp [smallB, this]
          generalize xs[k] = x at hcell e3
          go_wp2
          go_ret
          exact HN.out
        · have e3 : decide (600 < (xs[k].size : Int)) = false := by simp; omega
          have HN : Hid ((xs.take (k + 1)).all (fun x => decide (x.size ≤ 600)) = true) := by
            show _ = _
            rw [List.take_succ_eq_append_getElem hlt, List.all_append, HA.out]
            simp; omega
          generalize xs[k] = x at hcell e3
          go_wp2
          go_round
          case rel => exact ⟨k + 1, hlt, by go_num, HN.out⟩
          case measure => simp [intOf]; omega
      · have HN : Hid (SmallPost xs w (.returned (.bool true)) w) := by
          refine ⟨?_, rfl⟩
          have := HA.out
          rw [List.take_of_length_le (by omega)] at this
          simp [smallB, this]; omega
        go_wp2
        go_ret
        exact HN.out

theorem small_t (v : Value) (xs : List ByteArray) (B : Nat) (w : World) (hr : ReadsO w B v xs) (hn : xs.length ≤ maxLen) (h : smallB xs = true) : Calls Tryz.prog 13 #[v] w fun e w' => e = .returned (.bool true) ∧ w = w' := by
  have := small_any v xs B w hr hn
  unfold SmallPost at this
  rwa [h] at this
theorem small_f (v : Value) (xs : List ByteArray) (B : Nat) (w : World) (hr : ReadsO w B v xs) (hn : xs.length ≤ maxLen) (h : smallB xs = false) : Calls Tryz.prog 13 #[v] w fun e w' => e = .returned (.bool false) ∧ w = w' := by
  have := small_any v xs B w hr hn
  unfold SmallPost at this
  rwa [h] at this

end Go.Proofs.YtfdlcmjjnoapfaaGreatDoor
