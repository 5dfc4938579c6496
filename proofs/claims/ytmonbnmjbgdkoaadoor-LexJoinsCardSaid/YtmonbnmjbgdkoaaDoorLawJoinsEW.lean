/-
  LexJoins: a line that goes on is the line with both parts, and a blank between: for every argument. No condition.
-/
import Derived.Deep.RegionHeld3
import Derived.Deep.QuietTactic
import Derived.BigQuiet
import Derived.Test.YtmonbnmjbgdkoaaDoorES
namespace Go.Proofs.YtmonbnmjbgdkoaaDoor
open Go.RowKit

set_option maxRecDepth 100000 in
set_option maxHeartbeats 16000000 in
theorem lexJoins_over (HL : LexC) (s0 : ByteArray) (_hs0 : s0.size ≤ maxLen) (s1 : ByteArray) (_hs1 : s1.size ≤ maxLen) (s2 : ByteArray) (_hs2 : s2.size ≤ maxLen) (w : World) :
    Calls Tryd.prog 5 #[.string s0, .string s1, .string s2] w (LawPost w) := by
  have HSh := Lib.hid (shown_at HL w)
  have hb0 : Below w.heap.size w w := Below.refl _ _
  by_cases h0 : 400 < s0.size
  · have d0 : decide (400 < (s0.size : Int)) = true := by simp; omega
    clear h0 HL
    go_enter Tryd.func5, Tryd.ntmps5
    go_wp2_with (go_at_call 8; refine (HSh.out _ hb0).mono ?_; rintro e w2 ⟨rfl, hb2⟩)
    go_ret
    exact ⟨rfl, hb2⟩
  have d0 : decide (400 < (s0.size : Int)) = false := by simp; omega
  have n0 : s0.size ≤ 400 := by omega
  clear h0
  by_cases h1 : 400 < s1.size
  · have d1 : decide (400 < (s1.size : Int)) = true := by simp; omega
    clear h1 HL
    go_enter Tryd.func5, Tryd.ntmps5
    go_wp2_with (go_at_call 8; refine (HSh.out _ hb0).mono ?_; rintro e w2 ⟨rfl, hb2⟩)
    go_ret
    exact ⟨rfl, hb2⟩
  have d1 : decide (400 < (s1.size : Int)) = false := by simp; omega
  have n1 : s1.size ≤ 400 := by omega
  clear h1
  by_cases h2 : 1000 < s2.size
  · have d2 : decide (1000 < (s2.size : Int)) = true := by simp; omega
    clear h2 HL
    go_enter Tryd.func5, Tryd.ntmps5
    go_wp2_with (go_at_call 8; refine (HSh.out _ hb0).mono ?_; rintro e w2 ⟨rfl, hb2⟩)
    go_ret
    exact ⟨rfl, hb2⟩
  have d2 : decide (1000 < (s2.size : Int)) = false := by simp; omega
  have n2 : s2.size ≤ 1000 := by omega
  clear h2
  go_enter Tryd.func5, Tryd.ntmps5
  go_wp2_with (go_at_call 8; refine (HSh.out _ hb0).mono ?_; rintro e w2 ⟨rfl, hb2⟩)
  clear HSh hb0
  obtain ⟨sa, hsa'⟩ : ∃ sa, sa = s0 ++ s1 := ⟨_, rfl⟩
  rw [← hsa']
  have hsz : sa.size ≤ 800 := by rw [hsa', ByteArray.size_append]; omega
  have HSA := Lib.hid hsa'
  clear hsa'
  go_loop [9] (fun i => ∃ k : Nat, k ≤ sa.size ∧ i = .int .i64 k ∧ Hid (∀ x ∈ sa.data.toList.take k, x ≠ 10 ∧ x ≠ 92)) (fun i => sa.size - (intOf i).toNat)
  case atStart => exact ⟨0, Nat.zero_le _, rfl, (by intro x hx; simp at hx)⟩
  case round =>
    obtain ⟨k, hk, rfl, HN⟩ := hrel
    by_cases hlt : k < sa.size
    · have hik : (k : Int) < (sa.size : Int) := by omega
      have hi0 : (0 : Int) ≤ (k : Int) := by omega
      by_cases t10 : sa[k].toNat = 10
      · have e10 : ((sa[k].toNat : Int) == 10) = true := by simp; omega
        clear t10 HN
        go_wp2
        go_ret
        exact ⟨rfl, hb2⟩
      have e10 : ((sa[k].toNat : Int) == 10) = false := by simp; omega
      by_cases t92 : sa[k].toNat = 92
      · have e92 : ((sa[k].toNat : Int) == 92) = true := by simp; omega
        clear t92 HN
        go_wp2
        go_ret
        exact ⟨rfl, hb2⟩
      have e92 : ((sa[k].toNat : Int) == 92) = false := by simp; omega
      have HN2 : Hid (∀ x ∈ sa.data.toList.take (k + 1), x ≠ 10 ∧ x ≠ 92) := byte_next HN.out hlt ⟨ne_of (n := 10) (by decide) t10, ne_of (n := 92) (by decide) t92⟩
      clear t10 t92 HN
      go_wp2
      go_round
      case rel => exact ⟨k + 1, hlt, by go_num, HN2⟩
      case measure => simp [intOf]; omega
    · have hkn : k = sa.size := by omega
      subst hkn
      have HS0 : Hid (∀ x ∈ sa.data.toList, x ≠ 10 ∧ x ≠ 92) := byte_all HN.out
      have hik : ¬ (sa.size : Int) < (sa.size : Int) := by omega
      clear HN hlt hk
      have HS : Hid (∀ x ∈ (s0 ++ s1).data.toList, x ≠ 10 ∧ x ≠ 92) := by show ∀ x ∈ _, _; rw [← HSA.out]; exact HS0.out
      clear HS0 HSA
      by_cases x0 : s0.toList = []
      · have f0 : s0.toList.isEmpty = true := by simpa using x0
        clear x0 HS HL
        go_wp2
        go_ret
        exact ⟨rfl, hb2⟩
      have f0 : s0.toList.isEmpty = false := by simpa using x0
      by_cases x1 : s1.toList = []
      · have f1 : s1.toList.isEmpty = true := by simpa using x1
        clear x0 x1 HS HL
        go_wp2
        go_ret
        exact ⟨rfl, hb2⟩
      have f1 : s1.toList.isEmpty = false := by simpa using x1
      have hp0 : 0 < s0.size := by rw [← size_of]; rw [Lib.toList_data] at x0; exact List.length_pos_iff.2 x0
      have hp1 : 0 < s1.size := by rw [← size_of]; rw [Lib.toList_data] at x1; exact List.length_pos_iff.2 x1
      have hm0 : (0 : Int) ≤ (s0.size : Int) - 1 := by omega
      by_cases y0 : s1[0].toNat = 32
      · have gy0 : ((s1[0].toNat : Int) == 32) = true := by simp; omega
        clear y0 x0 x1 HS HL
        go_wp2
        go_ret
        exact ⟨rfl, hb2⟩
      have gy0 : ((s1[0].toNat : Int) == 32) = false := by simp; omega
      by_cases y1 : s1[0].toNat = 9
      · have gy1 : ((s1[0].toNat : Int) == 9) = true := by simp; omega
        clear y1 x0 x1 HS HL
        go_wp2
        go_ret
        exact ⟨rfl, hb2⟩
      have gy1 : ((s1[0].toNat : Int) == 9) = false := by simp; omega
      by_cases y2 : s0[s0.size - 1].toNat = 32
      · have gy2 : ((s0[s0.size - 1].toNat : Int) == 32) = true := by simp; omega
        clear y2 x0 x1 HS HL
        go_wp2
        go_ret
        exact ⟨rfl, hb2⟩
      have gy2 : ((s0[s0.size - 1].toNat : Int) == 32) = false := by simp; omega
      by_cases y3 : s0[s0.size - 1].toNat = 9
      · have gy3 : ((s0[s0.size - 1].toNat : Int) == 9) = true := by simp; omega
        clear y3 x0 x1 HS HL
        go_wp2
        go_ret
        exact ⟨rfl, hb2⟩
      have gy3 : ((s0[s0.size - 1].toNat : Int) == 9) = false := by simp; omega
      have ha0 : s0.data.toList ≠ [] := by rw [← Lib.toList_data]; exact x0
      have hla : ∀ x, s0.data.toList.getLast? = some x → blankB x = false := fun x hx => by
        have h1 : s0.data.toList[s0.data.toList.length - 1]? = some x := by rw [← List.getLast?_eq_getElem?]; exact hx
        rw [size_of] at h1
        have h2 : s0.data.toList[s0.size - 1]? = some s0[s0.size - 1] := by rw [List.getElem?_eq_getElem (by rw [size_of]; omega), Array.getElem_toList]; rfl
        rw [h2] at h1
        cases h1
        exact blank_not y2 y3
      have hlb : ∀ x, s1.data.toList.head? = some x → blankB x = false := fun x hx => by
        have h1 : s1.data.toList[0]? = some x := by rw [← List.head?_eq_getElem?]; exact hx
        have h2 : s1.data.toList[0]? = some s1[0] := by rw [List.getElem?_eq_getElem (by rw [size_of]; omega), Array.getElem_toList]; rfl
        rw [h2] at h1
        cases h1
        exact blank_not y0 y1
      have hsa : ∀ x ∈ s0.data.toList, x ≠ 10 ∧ x ≠ 92 := fun x hx => HS.out x (by rw [list_app]; exact List.mem_append_left _ hx)
      have hsb : ∀ x ∈ s1.data.toList, x ≠ 10 ∧ x ≠ 92 := fun x hx => HS.out x (by rw [list_app]; exact List.mem_append_right _ hx)
      have hlaw := lex_same (joins_law (s := s2.data.toList) hsa hsb ha0 hla hlb)
      have HA := Lib.hid (HL.of (s0.data.toList ++ 32 :: 9 :: 92 :: 10 :: 9 :: 32 :: (s1.data.toList ++ 10 :: s2.data.toList)) (by simp; omega))
      have HB := Lib.hid (HL.of (s0.data.toList ++ 32 :: (s1.data.toList ++ 10 :: s2.data.toList)) (by simp; omega))
      have hlA := lex_len (s0.data.toList ++ 32 :: 9 :: 92 :: 10 :: 9 :: 32 :: (s1.data.toList ++ 10 :: s2.data.toList))
      have hlB := lex_len (s0.data.toList ++ 32 :: (s1.data.toList ++ 10 :: s2.data.toList))
      obtain ⟨LA, hLA⟩ : ∃ LA, LA = lexOf (s0.data.toList ++ 32 :: 9 :: 92 :: 10 :: 9 :: 32 :: (s1.data.toList ++ 10 :: s2.data.toList)) := ⟨_, rfl⟩
      obtain ⟨LB, hLB⟩ : ∃ LB, LB = lexOf (s0.data.toList ++ 32 :: (s1.data.toList ++ 10 :: s2.data.toList)) := ⟨_, rfl⟩
      rw [← hLA] at hlaw hlA
      rw [← hLB] at hlaw hlB
      have HA2 : Hid (∀ z W, z.data.toList = s0.data.toList ++ 32 :: 9 :: 92 :: 10 :: 9 :: 32 :: (s1.data.toList ++ 10 :: s2.data.toList) → Calls Tryd.prog 9 #[.string z] W fun e w' => ∃ o c, e = .returned (.tuple #[.slice o LA.1.length c, .int .i64 LA.2.1, .int .i64 (LA.2.2 : Nat)]) ∧ ReadsI w' w'.heap.size (.slice o LA.1.length c) LA.1 ∧ Below W.heap.size W w') := fun z W hz => by
        have := HA.out z W hz
        unfold LexPost at this
        rw [← hLA] at this
        exact this
      have HB2 : Hid (∀ z W, z.data.toList = s0.data.toList ++ 32 :: (s1.data.toList ++ 10 :: s2.data.toList) → Calls Tryd.prog 9 #[.string z] W fun e w' => ∃ o c, e = .returned (.tuple #[.slice o LB.1.length c, .int .i64 LB.2.1, .int .i64 (LB.2.2 : Nat)]) ∧ ReadsI w' w'.heap.size (.slice o LB.1.length c) LB.1 ∧ Below W.heap.size W w') := fun z W hz => by
        have := HB.out z W hz
        unfold LexPost at this
        rw [← hLB] at this
        exact this
      clear HA HB hLA hLB HL ha0 hla hlb hsa hsb HS x0 x1 y0 y1 y2 y3
      obtain ⟨la, ca, na⟩ := LA
      obtain ⟨lb, cb, nb⟩ := LB
      replace hlaw : ca = cb ∧ la.map Prod.snd = lb.map Prod.snd := hlaw
      replace hlA : la.length ≤ 300 := hlA
      obtain ⟨hcd, hmap⟩ := hlaw
      subst hcd
      have HT : Hid (∀ o1 c1 o2 c2 W, ReadsI W W.heap.size (.slice o1 la.length c1) la → ReadsI W W.heap.size (.slice o2 lb.length c2) lb → Below w.heap.size w W → Calls Tryd.prog 10 #[.slice o1 la.length c1, .slice o2 lb.length c2] W fun e w' => e = .returned (.bool true) ∧ Below w.heap.size w w') := fun o1 c1 o2 c2 W h1 h2 hb =>
        (texts_any o1 o2 c1 c2 la lb W h1 h2 hmap (by omega)).mono fun _ _ k => ⟨k.1, hb.trans (k.2.mono hb.size)⟩
      clear hmap hlA hlB
      go_wp2_with fail
      refine (HA2.out _ _ ?hz1).mono ?_
      case hz1 => simp
      rintro e w5 ⟨o1, c1, rfl, hr5, hb5⟩
      replace hb5 := hb2.trans (hb5.mono hb2.size)
      clear HA2
      go_wp2_with fail
      refine (HB2.out _ _ ?hz2).mono ?_
      case hz2 => simp
      rintro e w6 ⟨o2, c2, rfl, hr2, hb6'⟩
      have hr1 := hr5.below hb6' hb6'.size
      have hb6 := hb5.trans (hb6'.mono hb5.size)
      clear HB2 hr5 hb5 hb6' hb2
      have hcc : (ca == ca) = true := by simp
      go_wp2_with (go_at_call 10; refine (HT.out _ _ _ _ _ hr1 hr2 hb6).mono ?_; rintro e w7 ⟨rfl, hb7⟩)
      go_ret
      exact ⟨rfl, hb7⟩

end Go.Proofs.YtmonbnmjbgdkoaaDoor
