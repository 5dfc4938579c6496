/-
  LexBetween: a line that is empty, or a comment, between two texts changes nothing but numbers: for every argument. No condition.
-/
import Derived.Deep.RegionHeld3
import Derived.Deep.QuietTactic
import Derived.BigQuiet
import Derived.Test.YtmonbnmjbgdkoaaDoorES
namespace Go.Proofs.YtmonbnmjbgdkoaaDoor
open Go.RowKit

set_option maxRecDepth 100000 in
set_option maxHeartbeats 16000000 in
theorem lexBetween_over (HL : LexC) (s0 : ByteArray) (_hs0 : s0.size ≤ maxLen) (s1 : ByteArray) (_hs1 : s1.size ≤ maxLen) (s2 : ByteArray) (_hs2 : s2.size ≤ maxLen) (w : World) :
    Calls Tryd.prog 4 #[.string s0, .string s1, .string s2] w (LawPost w) := by
  have HSh := Lib.hid (shown_at HL w)
  have hb0 : Below w.heap.size w w := Below.refl _ _
  by_cases h0 : 1000 < s0.size
  · have d0 : decide (1000 < (s0.size : Int)) = true := by simp; omega
    clear h0 HL
    go_enter Tryd.func4, Tryd.ntmps4
    go_wp2_with (go_at_call 8; refine (HSh.out _ hb0).mono ?_; rintro e w2 ⟨rfl, hb2⟩)
    go_ret
    exact ⟨rfl, hb2⟩
  have d0 : decide (1000 < (s0.size : Int)) = false := by simp; omega
  have n0 : s0.size ≤ 1000 := by omega
  clear h0
  by_cases h1 : 1000 < s1.size
  · have d1 : decide (1000 < (s1.size : Int)) = true := by simp; omega
    clear h1 HL
    go_enter Tryd.func4, Tryd.ntmps4
    go_wp2_with (go_at_call 8; refine (HSh.out _ hb0).mono ?_; rintro e w2 ⟨rfl, hb2⟩)
    go_ret
    exact ⟨rfl, hb2⟩
  have d1 : decide (1000 < (s1.size : Int)) = false := by simp; omega
  have n1 : s1.size ≤ 1000 := by omega
  clear h1
  by_cases h2 : 200 < s2.size
  · have d2 : decide (200 < (s2.size : Int)) = true := by simp; omega
    clear h2 HL
    go_enter Tryd.func4, Tryd.ntmps4
    go_wp2_with (go_at_call 8; refine (HSh.out _ hb0).mono ?_; rintro e w2 ⟨rfl, hb2⟩)
    go_ret
    exact ⟨rfl, hb2⟩
  have d2 : decide (200 < (s2.size : Int)) = false := by simp; omega
  have n2 : s2.size ≤ 200 := by omega
  clear h2
  go_enter Tryd.func4, Tryd.ntmps4
  go_wp2_with (go_at_call 8; refine (HSh.out _ hb0).mono ?_; rintro e w2 ⟨rfl, hb2⟩)
  clear HSh hb0
  go_loop [8] (fun i => ∃ k : Nat, k ≤ s2.size ∧ i = .int .i64 k ∧ Hid (∀ x ∈ s2.data.toList.take k, x ≠ 10 ∧ x ≠ 92)) (fun i => s2.size - (intOf i).toNat)
  case atStart => exact ⟨0, Nat.zero_le _, rfl, (by intro x hx; simp at hx)⟩
  case round =>
    obtain ⟨k, hk, rfl, HN⟩ := hrel
    by_cases hlt : k < s2.size
    · have hik : (k : Int) < (s2.size : Int) := by omega
      have hi0 : (0 : Int) ≤ (k : Int) := by omega
      by_cases t10 : s2[k].toNat = 10
      · have e10 : ((s2[k].toNat : Int) == 10) = true := by simp; omega
        clear t10 HN
        go_wp2
        go_ret
        exact ⟨rfl, hb2⟩
      have e10 : ((s2[k].toNat : Int) == 10) = false := by simp; omega
      by_cases t92 : s2[k].toNat = 92
      · have e92 : ((s2[k].toNat : Int) == 92) = true := by simp; omega
        clear t92 HN
        go_wp2
        go_ret
        exact ⟨rfl, hb2⟩
      have e92 : ((s2[k].toNat : Int) == 92) = false := by simp; omega
      have HN2 : Hid (∀ x ∈ s2.data.toList.take (k + 1), x ≠ 10 ∧ x ≠ 92) := byte_next HN.out hlt ⟨ne_of (n := 10) (by decide) t10, ne_of (n := 92) (by decide) t92⟩
      clear t10 t92 HN
      go_wp2
      go_round
      case rel => exact ⟨k + 1, hlt, by go_num, HN2⟩
      case measure => simp [intOf]; omega
    · have hkn : k = s2.size := by omega
      subst hkn
      have HC : Hid (∀ x ∈ s2.data.toList, x ≠ 10 ∧ x ≠ 92) := byte_all HN.out
      have hik : ¬ (s2.size : Int) < (s2.size : Int) := by omega
      clear HN hlt hk
      go_wp2
      go_loop [9] (fun i => ∃ k : Nat, k ≤ s0.size ∧ i = .int .i64 k ∧ Hid (∀ x ∈ s0.data.toList.take k, x ≠ 92)) (fun i => s0.size - (intOf i).toNat)
      case atStart => exact ⟨0, Nat.zero_le _, rfl, (by intro x hx; simp at hx)⟩
      case round =>
        obtain ⟨k, hk, rfl, HN⟩ := hrel
        by_cases hlt : k < s0.size
        · have hik : (k : Int) < (s0.size : Int) := by omega
          have hi0 : (0 : Int) ≤ (k : Int) := by omega
          by_cases t92 : s0[k].toNat = 92
          · have e92 : ((s0[k].toNat : Int) == 92) = true := by simp; omega
            clear t92 HN
            go_wp2
            go_ret
            exact ⟨rfl, hb2⟩
          have e92 : ((s0[k].toNat : Int) == 92) = false := by simp; omega
          have HN2 : Hid (∀ x ∈ s0.data.toList.take (k + 1), x ≠ 92) := byte_next HN.out hlt (ne_of (n := 92) (by decide) t92)
          clear t92 HN
          go_wp2
          go_round
          case rel => exact ⟨k + 1, hlt, by go_num, HN2⟩
          case measure => simp [intOf]; omega
        · have hkn : k = s0.size := by omega
          subst hkn
          have HS : Hid (∀ x ∈ s0.data.toList, x ≠ 92) := byte_all HN.out
          have hik : ¬ (s0.size : Int) < (s0.size : Int) := by omega
          clear HN hlt hk
          have hlaw := lex_same (between_law (t := s1.data.toList) HS.out HC.out)
          have HA := Lib.hid (HL.of (s0.data.toList ++ 10 :: s1.data.toList) (by simp; omega))
          have HB := Lib.hid (HL.of (s0.data.toList ++ 10 :: 35 :: 32 :: (s2.data.toList ++ 10 :: 32 :: 10 :: s1.data.toList)) (by simp; omega))
          have hlA := lex_len (s0.data.toList ++ 10 :: s1.data.toList)
          have hlB := lex_len (s0.data.toList ++ 10 :: 35 :: 32 :: (s2.data.toList ++ 10 :: 32 :: 10 :: s1.data.toList))
          obtain ⟨LA, hLA⟩ : ∃ LA, LA = lexOf (s0.data.toList ++ 10 :: s1.data.toList) := ⟨_, rfl⟩
          obtain ⟨LB, hLB⟩ : ∃ LB, LB = lexOf (s0.data.toList ++ 10 :: 35 :: 32 :: (s2.data.toList ++ 10 :: 32 :: 10 :: s1.data.toList)) := ⟨_, rfl⟩
          rw [← hLA] at hlaw hlA
          rw [← hLB] at hlaw hlB
          have HA2 : Hid (∀ z W, z.data.toList = s0.data.toList ++ 10 :: s1.data.toList → Calls Tryd.prog 9 #[.string z] W fun e w' => ∃ o c, e = .returned (.tuple #[.slice o LA.1.length c, .int .i64 LA.2.1, .int .i64 (LA.2.2 : Nat)]) ∧ ReadsI w' w'.heap.size (.slice o LA.1.length c) LA.1 ∧ Below W.heap.size W w') := fun z W hz => by
            have := HA.out z W hz
            unfold LexPost at this
            rw [← hLA] at this
            exact this
          have HB2 : Hid (∀ z W, z.data.toList = s0.data.toList ++ 10 :: 35 :: 32 :: (s2.data.toList ++ 10 :: 32 :: 10 :: s1.data.toList) → Calls Tryd.prog 9 #[.string z] W fun e w' => ∃ o c, e = .returned (.tuple #[.slice o LB.1.length c, .int .i64 LB.2.1, .int .i64 (LB.2.2 : Nat)]) ∧ ReadsI w' w'.heap.size (.slice o LB.1.length c) LB.1 ∧ Below W.heap.size W w') := fun z W hz => by
            have := HB.out z W hz
            unfold LexPost at this
            rw [← hLB] at this
            exact this
          clear HA HB hLA hLB HL
          obtain ⟨la, ca, na⟩ := LA
          obtain ⟨lb, cb, nb⟩ := LB
          replace hlaw : ca = cb ∧ la.map Prod.snd = lb.map Prod.snd := hlaw
          replace hlA : la.length ≤ 300 := hlA
          obtain ⟨hcd, hmap⟩ := hlaw
          subst hcd
          have HT : Hid (∀ o1 c1 o2 c2 W, ReadsI W W.heap.size (.slice o1 la.length c1) la → ReadsI W W.heap.size (.slice o2 lb.length c2) lb → Below w.heap.size w W → Calls Tryd.prog 10 #[.slice o1 la.length c1, .slice o2 lb.length c2] W fun e w' => e = .returned (.bool true) ∧ Below w.heap.size w w') := fun o1 c1 o2 c2 W h1 h2 hb =>
            (texts_any o1 o2 c1 c2 la lb W h1 h2 hmap (by omega)).mono fun _ _ k => ⟨k.1, hb.trans (k.2.mono hb.size)⟩
          clear hmap hlA hlB
          go_wp2_with fail
          refine (HA2.out _ _ ?hz1).mono ?_
          case hz1 => simp
          rintro e w5 ⟨o1, c1, rfl, hr5, hb5⟩
          replace hb5 := hb2.trans (hb5.mono hb2.size)
          clear HA2
          go_wp2_with fail
          refine (HB2.out _ _ ?hz2).mono ?_
          case hz2 => simp
          rintro e w6 ⟨o2, c2, rfl, hr2, hb6'⟩
          have hr1 := hr5.below hb6' hb6'.size
          have hb6 := hb5.trans (hb6'.mono hb5.size)
          clear HB2 hr5 hb5 hb6' hb2
          have hcc : (ca == ca) = true := by simp
          go_wp2_with (go_at_call 10; refine (HT.out _ _ _ _ _ hr1 hr2 hb6).mono ?_; rintro e w7 ⟨rfl, hb7⟩)
          go_ret
          exact ⟨rfl, hb7⟩

end Go.Proofs.YtmonbnmjbgdkoaaDoor
