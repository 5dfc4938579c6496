/-
  What glob.Any answers of a list of texts, by slices.ContainsFunc over a method value: whether one of them matches; nothing that lay is turned.
-/
import Derived.Test.YtijpihldeaflgaaGWalk
namespace Go.Proofs.Ytijpihldeaflgaa
open Go.RowKit Go.Shelf

def oneB (p s : ByteArray) : Bool := (matchL p.data.toList s.data.toList).2
def anyB (ps : List ByteArray) (s : ByteArray) : Bool := ps.any (fun p => oneB p s)

set_option maxRecDepth 100000 in
set_option maxHeartbeats 1000000 in
theorem matched_any (s p : ByteArray) (hp : p.size ≤ maxLen) (hs : s.size ≤ maxLen) (w : World) : Calls Try.prog 29 #[.string s, .string p] w fun e w' => e = .returned (.bool (oneB p s)) ∧ ∃ n, w' = w.drewN n := by
  have HM := Lib.hid (match_any p s hp hs)
  clear hp hs
  go_enter Try.func29, Try.ntmps29
  go_wp2_with (go_at_call 11; refine (HM.out _).mono ?_; rintro e w' ⟨rfl, nd, rfl⟩)
  go_ret
  exact ⟨rfl, nd, rfl⟩

/-- The place of the first one that matches. -/
def firstAt (ps : List ByteArray) (s : ByteArray) : Int := if anyB ps s then (ps.findIdx (fun p => oneB p s) : Nat) else -1
theorem first_none {ps : List ByteArray} {s : ByteArray} (h : ∀ j (hj : j < ps.length), oneB ps[j] s = false) : anyB ps s = false := by
  unfold anyB
  rw [List.any_eq_false]
  intro p hp
  obtain ⟨j, hj, rfl⟩ := List.getElem_of_mem hp
  simp [h j hj]
theorem first_some {ps : List ByteArray} {s : ByteArray} {j : Nat} (hj : j < ps.length) (h : oneB ps[j] s = true) : anyB ps s = true := by
  unfold anyB
  rw [List.any_eq_true]
  exact ⟨ps[j], List.getElem_mem hj, h⟩

def IdxPost (ps : List ByteArray) (s : ByteArray) (w : World) (e : Ending) (w' : World) : Prop := ∃ i : Int, e = .returned (.int .i64 i) ∧ (decide (0 ≤ i) = anyB ps s) ∧ ∃ n, w' = w.drewN n

set_option maxRecDepth 100000 in
set_option maxHeartbeats 2000000 in
theorem indexFunc_any (v : Value) (ps : List ByteArray) (s : ByteArray) (B : Nat) (w : World) (hr : ReadsO w B v ps) (hn : ps.length ≤ maxLen) (hz : ∀ p ∈ ps, p.size ≤ maxLen) (hs : s.size ≤ maxLen) :
    Calls Try.prog 36 #[v, .func (.func 29) #[.string s] #[]] w (IdxPost ps s w) := by
  unfold maxLen at hn
  obtain ⟨o, c, rfl, hx⟩ := hr
  have HX := Lib.hid hx
  have HZ := Lib.hid hz
  have HS := Lib.hid hs
  clear hx hz hs
  go_enter Try.func36, Try.ntmps36
  go_wp2
  go_loopw [5, 8] (fun _ i wr => ∃ k q : Nat, k ≤ ps.length ∧ i = .int .i64 k ∧ wr = w.drewN q ∧ Hid (∀ j (hj : j < ps.length), j < k → oneB ps[j] s = false)) (fun _ i _ => ps.length - (intOf i).toNat)
  case atStart => exact ⟨0, 0, Nat.zero_le _, rfl, rfl, fun j hj h => absurd h (Nat.not_lt_zero _)⟩
  case round =>
    obtain ⟨k, q, hk, rfl, rfl, HA⟩ := hrel
    by_cases hlt : k < ps.length
    · obtain ⟨b, f, rfl, _, hkc, hcell⟩ := HX.out k ps[k] (List.getElem?_eq_getElem hlt)
      have hkc' : k < c := by omega
      have HC := Lib.hid (matched_any s ps[k] (HZ.out _ (List.getElem_mem hlt)) HS.out)
      cases h1 : oneB ps[k] s with
      | true =>
        have HC' : Hid (∀ w, Calls Try.prog 29 #[.string s, .string ps[k]] w fun e w' => e = .returned (.bool true) ∧ ∃ n, w' = w.drewN n) := by
          intro w; have := HC.out w; rwa [h1] at this
        have HN : Hid (anyB ps s = true) := first_some hlt h1
        clear HC h1
        generalize ps[k] = x at hcell HC'
        go_wp2_with (go_at_call 29; refine (HC'.out _).mono ?_; rintro e w' ⟨rfl, nd, rfl⟩)
        go_ret
        exact ⟨_, rfl, by rw [HN.out]; simp, _, rfl⟩
      | false =>
        have HC' : Hid (∀ w, Calls Try.prog 29 #[.string s, .string ps[k]] w fun e w' => e = .returned (.bool false) ∧ ∃ n, w' = w.drewN n) := by
          intro w; have := HC.out w; rwa [h1] at this
        have HN : Hid (∀ j (hj : j < ps.length), j < k + 1 → oneB ps[j] s = false) := by
          intro j hj hjk
          by_cases hjk' : j < k
          · exact HA.out j hj hjk'
          · have : j = k := by omega
            subst this
            exact h1
        clear HC h1
        generalize ps[k] = x at hcell HC'
        go_wp2_with (go_at_call 29; refine (HC'.out _).mono ?_; rintro e w' ⟨rfl, nd, rfl⟩)
        go_roundw
        case rel => exact ⟨k + 1, _, hlt, by go_num, rfl, HN⟩
        case measure => simp [intOf]; omega
    · have HN : Hid (anyB ps s = false) := first_none fun j hj => HA.out j hj (by omega)
      go_wp2
      go_ret
      exact ⟨_, rfl, by rw [HN.out]; simp, _, rfl⟩

set_option maxRecDepth 100000 in
set_option maxHeartbeats 1000000 in
theorem containsFunc_any (v : Value) (ps : List ByteArray) (s : ByteArray) (B : Nat) (w : World) (hr : ReadsO w B v ps) (hn : ps.length ≤ maxLen) (hz : ∀ p ∈ ps, p.size ≤ maxLen) (hs : s.size ≤ maxLen) :
    Calls Try.prog 28 #[v, .func (.func 29) #[.string s] #[]] w fun e w' => e = .returned (.bool (anyB ps s)) ∧ ∃ n, w' = w.drewN n := by
  have HI := Lib.hid (indexFunc_any v ps s B w hr hn hz hs)
  clear hr hn hz hs
  go_enter Try.func28, Try.ntmps28
  go_wp2_with (go_at_call 36; refine HI.out.mono ?_; rintro e w' ⟨i, rfl, hi, nd, rfl⟩)
  go_ret
  exact ⟨rfl, nd, rfl⟩

set_option maxRecDepth 100000 in
set_option maxHeartbeats 1000000 in
theorem any_any (v : Value) (ps : List ByteArray) (s : ByteArray) (B : Nat) (w : World) (hr : ReadsO w B v ps) (hn : ps.length ≤ maxLen) (hz : ∀ p ∈ ps, p.size ≤ maxLen) (hs : s.size ≤ maxLen) :
    Calls Try.prog 17 #[v, .string s] w fun e w' => e = .returned (.bool (anyB ps s)) ∧ ∃ n, w' = w.drewN n := by
  have HI := Lib.hid (containsFunc_any v ps s B w hr hn hz hs)
  clear hr hn hz hs
  go_enter Try.func17, Try.ntmps17
  go_wp2_with (go_at_call 28; refine HI.out.mono ?_; rintro e w' ⟨rfl, nd, rfl⟩)
  go_ret
  exact ⟨rfl, nd, rfl⟩

end Go.Proofs.Ytijpihldeaflgaa
