/-
  What LineTakes answers: true.
-/
import Derived.Deep.QuietTactic
import Derived.BigQuiet
import Derived.Test.YtllkibdpjpdbbaaDoorLTakeDet
import Derived.Test.YtllkibdpjpdbbaaDoorLRScan
import Derived.Test.YtllkibdpjpdbbaaDoorLShown
import Derived.Test.YtllkibdpjpdbbaaDoorLScanDet
namespace Go.Proofs.YtllkibdpjpdbbaaDoor
open Go.RowKit Go.Shelf


set_option maxRecDepth 100000 in
set_option maxHeartbeats 2000000 in
theorem lineTakes_walk (s : ByteArray) (_hs : s.size ≤ maxLen) (w : World) : Calls Tryd.prog 4 #[.string s] w (LawPost w) := by
  have HW := Lib.hid shown_any
  by_cases h14 : 14000 < s.size
  · have e1 : decide (14000 < (s.size : Int)) = true := by simp; omega
    go_enter Tryd.func4, Tryd.ntmps4
    go_wp2_with fail
    refine (HW.out _).mono ?_
    rintro e w1 ⟨rfl, hb1⟩
    go_wp2_with fail
    go_ret
    exact ⟨rfl, hb1⟩
  have e1 : decide (14000 < (s.size : Int)) = false := by simp; omega
  have hm : s.size ≤ maxLen := by unfold maxLen; omega
  obtain ⟨xs, t, c, hdet, hwhat⟩ := take_det s.data.toList
  have hxl : xs.length ≤ maxLen := by
    rcases hwhat with ⟨ys, r, ht, hx, _⟩ | ⟨_, hx, _⟩
    · have := (take_ok ht).2.2.1
      rw [hx, List.length_map]; unfold maxLen; omega
    · rw [hx]; exact Nat.zero_le _
  have HT : Hid (∀ w1, Calls Tryd.prog 14 #[.string s] w1 fun e w' => ∃ o cp, e = .returned (.tuple #[.slice o xs.length cp, .string t, .int .i64 c]) ∧ ReadsO w' w'.heap.size (.slice o xs.length cp) xs ∧ Below w1.heap.size w1 w') := fun w1 => (take_any s hm w1).mono fun e w' h => hdet w1 e w' h
  have HR : Hid (∀ w1, Calls Tryd.prog 15 #[.string s] w1 fun e w' => ∃ o cp, e = .returned (.tuple #[.slice o xs.length cp, .string t, .int .i64 c]) ∧ ReadsO w' w'.heap.size (.slice o xs.length cp) xs ∧ Below w1.heap.size w1 w') := fun w1 => (rtake_any s (by omega) w1).mono fun e w' h => hdet w1 e w' h
  have hsc := fun w1 => (scan_any s (by omega) w1).mono fun e w' h => scan_shape h
  have hrc := fun w1 => (rscan_any s (by omega) w1).mono fun e w' h => scan_shape h
  obtain ⟨hss1, hss2⟩ := scan_small s (by omega)
  generalize endI s.data.toList (scanOf s.data.toList) = en at hsc hrc
  have hll : (scanOf s.data.toList).length = ((scanOf s.data.toList).map fun x => x.1.map txt).length := by rw [List.length_map]
  rw [hll] at hsc hrc
  generalize (scanOf s.data.toList).map (fun x => x.1.map txt) = xss at *
  have HSC := Lib.hid hsc
  have HRC := Lib.hid hrc
  have HL2 := Lib.hid hss2
  have e2 : (t.toList == t.toList) = true := by simp
  have e3 : (c == c) = true := by simp
  have e4 : (en == en) = true := by simp
  clear hdet hwhat hsc hrc hss2 hll
  go_enter Tryd.func4, Tryd.ntmps4
  go_wp2_with fail
  refine (HW.out _).mono ?_
  rintro e w1 ⟨rfl, hb1⟩
  go_wp2_with fail
  refine (HT.out w1).mono ?_
  rintro e w2 ⟨o2, c2, rfl, hr2, hb2⟩
  have hB2 := below2 hb1 hb2
  go_wp2_with fail
  refine (HR.out w2).mono ?_
  rintro e w3 ⟨o3, c3, rfl, hr3, hb3⟩
  have hB3 := below2 hB2 hb3
  have hr23 := hr2.below hb3 hb3.size
  go_wp2_with fail
  refine (HSC.out w3).mono ?_
  rintro e w4 ⟨o4, c4, rfl, hr4, hb4⟩
  have hB4 := below2 hB3 hb4
  have hr24 := hr23.below hb4 hb4.size
  have hr34 := hr3.below hb4 hb4.size
  go_wp2_with fail
  refine (HRC.out w4).mono ?_
  rintro e w5 ⟨o5, c5, rfl, hr5, hb5⟩
  have hB5 := below2 hB4 hb5
  have hS1 := same_b _ _ xs xs w5.heap.size w5 (hr24.below hb5 hb5.size) (hr34.below hb5 hb5.size) hxl
  rw [decide_eq_true rfl] at hS1
  have hr45 := hr4.below hb5 hb5.size
  have HS1 := Lib.hid hS1
  clear hS1 hr2 hr3 hr23 hr24 hr34 hr4
  go_wp2_with fail
  refine HS1.out.mono ?_
  rintro e w6 ⟨rfl, hb6⟩
  have hB6 := below2 hB5 hb6
  have hS2 := sameAll_any _ _ xss xss w6.heap.size w6 (hr45.below hb6 hb6.size) (hr5.below hb6 hb6.size) hss1 HL2.out
  rw [decide_eq_true rfl] at hS2
  have HS2 := Lib.hid hS2
  clear hS2 hr45 hr5 HS1
  go_wp2_with fail
  refine HS2.out.mono ?_
  rintro e w7 ⟨rfl, hb7⟩
  go_wp2_with fail
  go_ret
  exact ⟨rfl, below2 hB6 hb7⟩

end Go.Proofs.YtllkibdpjpdbbaaDoor
