/-
  LexMany: there are at most 300 lines, each of 1000 bytes at most: one more, or one byte more, is told, by its number: for every argument. No condition.
-/
import Derived.Deep.RegionHeld3
import Derived.Deep.QuietTactic
import Derived.BigQuiet
import Derived.Test.YtmonbnmjbgdkoaaDoorES
namespace Go.Proofs.YtmonbnmjbgdkoaaDoor
open Go.RowKit

set_option maxRecDepth 100000 in
set_option maxHeartbeats 16000000 in
theorem lexMany_over (HL : LexC) (i0 : Int) (hi0 : -9223372036854775808 ≤ i0 ∧ i0 ≤ 9223372036854775807) (i1 : Int) (hi1 : -9223372036854775808 ≤ i1 ∧ i1 ≤ 9223372036854775807) (w : World) :
    Calls Tryd.prog 7 #[.int .i64 i0, .int .i64 i1] w (LawPost w) := by
  have HSh := Lib.hid (shown_at HL w)
  have hb0 : Below w.heap.size w w := Below.refl _ _
  obtain ⟨a0, E0⟩ : ∃ a : Int, (if 320 < i0 then (320 : Int) else i0) = a := ⟨_, rfl⟩
  obtain ⟨n, F0⟩ : ∃ n : Nat, (if 0 < a0 then a0 else 0) = (n : Int) := ⟨(if 0 < a0 then a0 else 0).toNat, by split <;> omega⟩
  have hn : n ≤ 320 := by
    have q : a0 ≤ 320 := by rw [← E0]; split <;> omega
    have : (n : Int) ≤ 320 := by rw [← F0]; split <;> omega
    omega
  obtain ⟨a1, E1⟩ : ∃ a : Int, (if 1100 < i1 then (1100 : Int) else i1) = a := ⟨_, rfl⟩
  obtain ⟨m, F1⟩ : ∃ n : Nat, (if 0 < a1 then a1 else 0) = (n : Int) := ⟨(if 0 < a1 then a1 else 0).toNat, by split <;> omega⟩
  have hm : m ≤ 1100 := by
    have q : a1 ≤ 1100 := by rw [← E1]; split <;> omega
    have : (m : Int) ≤ 1100 := by rw [← F1]; split <;> omega
    omega
  go_enter Tryd.func7, Tryd.ntmps7
  go_wp2_with (go_at_call 8; refine (HSh.out _ hb0).mono ?_; rintro e w2 ⟨rfl, hb2⟩)
  clear E0 E1 F0 F1 HSh hb0
  go_loop [8, 9] (fun sv i => ∃ (k : Nat) (z : ByteArray), k ≤ n ∧ i = .int .i64 k ∧ sv = .string z ∧ Hid (z.data.toList = (List.replicate k [120, 10]).flatten)) (fun _ i => n - (intOf i).toNat)
  case atStart => exact ⟨0, ⟨#[]⟩, Nat.zero_le _, rfl, rfl, (by show _ = _; rfl)⟩
  case round =>
    obtain ⟨k, z, hk, rfl, rfl, HZ⟩ := hrel
    have hz : z.size = 2 * k := by rw [← size_of, HZ.out]; simp; omega
    by_cases hlt : k < n
    · have hik : (k : Int) < (n : Int) := by omega
      have HZ2 : Hid ((z ++ ⟨#[120, 10]⟩).data.toList = (List.replicate (k + 1) [120, 10]).flatten) := by
        show _ = _
        rw [list_app, HZ.out]
        simp [List.replicate_succ']
      clear HZ
      go_wp2
      go_round
      case rel => exact ⟨k + 1, _, hlt, by go_num, rfl, HZ2⟩
      case measure => simp [intOf]; omega
    · have hkn : k = n := by omega
      have HZz : Hid (z.data.toList = (List.replicate n [120, 10]).flatten) := by show _ = _; rw [← hkn]; exact HZ.out
      have hik : ¬ (k : Int) < (n : Int) := by omega
      clear HZ hlt hk
      go_wp2
      go_loop [10, 11] (fun sv i => ∃ (k : Nat) (z : ByteArray), k ≤ m ∧ i = .int .i64 k ∧ sv = .string z ∧ Hid (z.data.toList = List.replicate k 121)) (fun _ i => m - (intOf i).toNat)
      case atStart => exact ⟨0, ⟨#[]⟩, Nat.zero_le _, rfl, rfl, (by show _ = _; rfl)⟩
      case round =>
        obtain ⟨k, y, hk, rfl, rfl, HZ⟩ := hrel
        have hz : y.size = 1 * k := by rw [← size_of, HZ.out]; simp
        by_cases hlt : k < m
        · have hik : (k : Int) < (m : Int) := by omega
          have HZ2 : Hid ((y ++ ⟨#[121]⟩).data.toList = List.replicate (k + 1) 121) := by
            show _ = _
            rw [list_app, HZ.out]
            simp [List.replicate_succ']
          clear HZ
          go_wp2
          go_round
          case rel => exact ⟨k + 1, _, hlt, by go_num, rfl, HZ2⟩
          case measure => simp [intOf]; omega
        · have hkn : k = m := by omega
          have HZy : Hid (y.data.toList = List.replicate m 121) := by show _ = _; rw [← hkn]; exact HZ.out
          have hik : ¬ (k : Int) < (m : Int) := by omega
          clear HZ hlt hk
          obtain ⟨l1, l2, l3⟩ := many_law n m
          have hlen : ((List.replicate n [120, 10]).flatten ++ List.replicate m 121 : BS).length ≤ 1000000 := by simp; omega
          by_cases hn3 : 300 < n
          · have hE := l1 hn3
            have dn : decide ((300 : Int) < (n : Int)) = true := by simp; omega
            clear l1 l2 l3
            have HX : Hid (∀ z W, z.data.toList = (List.replicate n [120, 10]).flatten ++ List.replicate m 121 → Calls Tryd.prog 9 #[.string z] W fun e w' => ∃ o c, e = .returned (.tuple #[.slice o 0 c, .int .i64 3, .int .i64 301]) ∧ Below W.heap.size W w') := fun z W hz => by
              refine (HL.of _ hlen z W hz).mono ?_
              rintro e w' ⟨o, c, rfl, _, hb⟩
              rw [hE]
              exact ⟨o, c, rfl, hb⟩
            clear HL hlen hE
            go_wp2_with fail
            refine (HX.out _ _ ?hz1).mono ?_
            case hz1 => rw [list_app, HZz.out, HZy.out]
            rintro e w5 ⟨o, c, rfl, hb5⟩
            replace hb5 := hb2.trans (hb5.mono hb2.size)
            clear HX HZz HZy
            go_wp2
            go_ret
            exact ⟨rfl, hb5⟩
          have dn : decide ((300 : Int) < (n : Int)) = false := by simp; omega
          by_cases hq : 0 < m ∧ (n = 300 ∨ 1000 < m)
          · have hE := l2 (by omega) hq.1 hq.2
            have dm : decide ((0 : Int) < (m : Int)) = true := by simp; omega
            have nm : 0 < m := hq.1
            clear l1 l2 l3
            by_cases h3 : n = 300
            · have d3 : ((n : Int) == 300) = true := by simp; omega
              have HX : Hid (∀ z W, z.data.toList = (List.replicate n [120, 10]).flatten ++ List.replicate m 121 → Calls Tryd.prog 9 #[.string z] W fun e w' => ∃ o c, e = .returned (.tuple #[.slice o 0 c, .int .i64 3, .int .i64 ((n : Int) + 1)]) ∧ Below W.heap.size W w') := fun z W hz => by
                refine (HL.of _ hlen z W hz).mono ?_
                rintro e w' ⟨o, c, rfl, _, hb⟩
                rw [hE]
                exact ⟨o, c, rfl, hb⟩
              clear HL hlen hE
              go_wp2_with fail
              refine (HX.out _ _ ?hz1).mono ?_
              case hz1 => rw [list_app, HZz.out, HZy.out]
              rintro e w5 ⟨o, c, rfl, hb5⟩
              replace hb5 := hb2.trans (hb5.mono hb2.size)
              clear HX HZz HZy
              go_wp2
              go_ret
              exact ⟨rfl, hb5⟩
            · have d3 : ((n : Int) == 300) = false := by simp; omega
              have hk1 : 1000 < m := by omega
              have d4 : decide ((1000 : Int) < (m : Int)) = true := by simp; omega
              have HX : Hid (∀ z W, z.data.toList = (List.replicate n [120, 10]).flatten ++ List.replicate m 121 → Calls Tryd.prog 9 #[.string z] W fun e w' => ∃ o c, e = .returned (.tuple #[.slice o 0 c, .int .i64 3, .int .i64 ((n : Int) + 1)]) ∧ Below W.heap.size W w') := fun z W hz => by
                refine (HL.of _ hlen z W hz).mono ?_
                rintro e w' ⟨o, c, rfl, _, hb⟩
                rw [hE]
                exact ⟨o, c, rfl, hb⟩
              clear HL hlen hE
              go_wp2_with fail
              refine (HX.out _ _ ?hz1).mono ?_
              case hz1 => rw [list_app, HZz.out, HZy.out]
              rintro e w5 ⟨o, c, rfl, hb5⟩
              replace hb5 := hb2.trans (hb5.mono hb2.size)
              clear HX HZz HZy
              go_wp2
              go_ret
              exact ⟨rfl, hb5⟩
          · obtain ⟨hE1, hE2⟩ := l3 (by omega) hq
            clear l1 l2 l3
            have hE := hE2
            by_cases h0 : m = 0
            · have dm : decide ((0 : Int) < (m : Int)) = false := by simp; omega
              have e9 : (if (1 : Int) < (m : Int) then (1 : Int) else (m : Int)) = 0 := by rw [if_neg (by omega)]; omega
              have HX : Hid (∀ z W, z.data.toList = (List.replicate n [120, 10]).flatten ++ List.replicate m 121 → Calls Tryd.prog 9 #[.string z] W fun e w' => ∃ o c, e = .returned (.tuple #[.slice o n c, .int .i64 0, .int .i64 0]) ∧ Below W.heap.size W w') := fun z W hz => by
                refine (HL.of _ hlen z W hz).mono ?_
                rintro e w' ⟨o, c, rfl, _, hb⟩
                rw [hE1]; rw [hE2, show n + min m 1 = n by omega]
                exact ⟨o, c, rfl, hb⟩
              clear HL hlen hE
              go_wp2_with fail
              refine (HX.out _ _ ?hz1).mono ?_
              case hz1 => rw [list_app, HZz.out, HZy.out]
              rintro e w5 ⟨o, c, rfl, hb5⟩
              replace hb5 := hb2.trans (hb5.mono hb2.size)
              clear HX HZz HZy
              go_wp2
              go_ret
              exact ⟨rfl, hb5⟩
            · have dm : decide ((0 : Int) < (m : Int)) = true := by simp; omega
              have nm : 0 < m := by omega
              have d3 : ((n : Int) == 300) = false := by simp; omega
              have d4 : decide ((1000 : Int) < (m : Int)) = false := by simp; omega
              have n3 : ¬ n = 300 := by omega
              have n4 : ¬ 1000 < m := by omega
              have e9 : (if (1 : Int) < (m : Int) then (1 : Int) else (m : Int)) = 1 := by split <;> omega
              have HX : Hid (∀ z W, z.data.toList = (List.replicate n [120, 10]).flatten ++ List.replicate m 121 → Calls Tryd.prog 9 #[.string z] W fun e w' => ∃ o c, e = .returned (.tuple #[.slice o (n + 1) c, .int .i64 0, .int .i64 0]) ∧ Below W.heap.size W w') := fun z W hz => by
                refine (HL.of _ hlen z W hz).mono ?_
                rintro e w' ⟨o, c, rfl, _, hb⟩
                rw [hE1]; rw [hE2, show n + min m 1 = n + 1 by omega]
                exact ⟨o, c, rfl, hb⟩
              clear HL hlen hE
              go_wp2_with fail
              refine (HX.out _ _ ?hz1).mono ?_
              case hz1 => rw [list_app, HZz.out, HZy.out]
              rintro e w5 ⟨o, c, rfl, hb5⟩
              replace hb5 := hb2.trans (hb5.mono hb2.size)
              clear HX HZz HZy
              go_wp2
              go_ret
              exact ⟨rfl, hb5⟩

end Go.Proofs.YtmonbnmjbgdkoaaDoor
