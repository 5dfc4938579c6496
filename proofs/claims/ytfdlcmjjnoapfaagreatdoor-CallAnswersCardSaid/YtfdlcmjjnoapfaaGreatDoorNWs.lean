/-
  The laws' own same, decimal; text.Join over a row that was told. No condition but sizes.
-/
import Derived.LoopIn
import Derived.LoopNIn
import Derived.Deep.QuietTactic
import Derived.BigQuiet
import Derived.WalkSpells
import Derived.Test.YtfdlcmjjnoapfaaGreatDoorNWm
namespace Go.Proofs.YtfdlcmjjnoapfaaGreatDoor
open Go.RowKit Go.Shelf
attribute [local go_sem] Oper.semAt_some

set_option maxRecDepth 100000 in
set_option maxHeartbeats 2000000 in
theorem decimal_told (n0 : Nat) (hn : n0 ≤ 1000000000) (w : World) : Calls Tryz.prog 23 #[.int .i64 (n0 : Int)] w fun e w' => e = .returned (.string (txt (decOf n0))) ∧ w = w' := by
  go_enter Tryz.func23, Tryz.ntmps23
  go_wp2
  go_loop [0, 3] (fun nv sv => ∃ (n : Nat) (s : BT), nv = .int .i64 n ∧ sv = .string (txt s) ∧ s.length + n ≤ n0 + 1 ∧ DecAt n0 n s) (fun nv sv => 2 * (intOf nv).toNat + (1 - strLen sv))
  case atStart => exact ⟨n0, [], rfl, rfl, by simp, .inl ⟨rfl, rfl⟩⟩
  case round =>
    obtain ⟨n, s, rfl, rfl, hb, hD⟩ := hrel
    have HD := Lib.hid hD
    clear hD
    have hmod : n % 10 < 10 := Nat.mod_lt _ (by omega)
    have hr : Int.tmod (n : Int) 10 = ((n % 10 : Nat) : Int) := by rw [Int.tmod_eq_emod_of_nonneg (by omega)]; omega
    have hq : Int.tdiv (n : Int) 10 = ((n / 10 : Nat) : Int) := by rw [Int.tdiv_eq_ediv_of_nonneg (by omega)]; omega
    have hdt := digit_text (n % 10) hmod
    have hcat : (txt [digitOf (n % 10)] ++ txt s).size ≤ 2000000000 := by rw [ByteArray.size_append, txt_size, txt_size]; simp; omega
    obtain ⟨m, hm⟩ : ∃ m, m = n % 10 := ⟨_, rfl⟩
    rw [← hm] at hmod hr hdt hcat
    obtain ⟨k, hk⟩ : ∃ k, k = n / 10 := ⟨_, rfl⟩
    rw [← hk] at hq
    have HT : Hid (0 < n ∨ s = [] → ∃ s2, txt [digitOf m] ++ txt s = txt s2 ∧ s2.length = s.length + 1 ∧ DecAt n0 k s2) := fun hg => by
      refine ⟨digitOf n :: s, ?_, by simp, by rw [hk]; exact HD.out.step hg⟩
      rw [hm, digit_mod, txt_app]; rfl
    by_cases hn0 : 0 < n
    · obtain ⟨s2, h1, h2, h3⟩ := HT.out (.inl hn0)
      have H3 := Lib.hid h3
      have hkn : k < n := by rw [hk]; omega
      have h0 : (0 : Int) < (n : Int) := by omega
      clear HT HD hm hk h3
      go_wp2
      go_round
      case rel => exact ⟨k, s2, by go_num, by rw [← h1], by omega, H3.out⟩
      case measure => simp [intOf]; omega
    · have h0 : ¬ (0 : Int) < (n : Int) := by omega
      by_cases hs : s = []
      · obtain ⟨s2, h1, h2, h3⟩ := HT.out (.inr hs)
        have H3 := Lib.hid h3
        have hk0 : k = 0 := by rw [hk]; omega
        have hse : (txt s).toList.isEmpty = true := by rw [txt_toL, hs]; rfl
        have hsz : s.length = 0 := by rw [hs]; rfl
        clear HT HD hm hk h3 hs
        go_wp2
        go_round
        case rel => exact ⟨k, s2, by go_num, by rw [← h1], by omega, H3.out⟩
        case measure => simp [intOf, strLen]; omega
      · have hse : (txt s).toList.isEmpty = false := by rw [txt_toL]; simpa using hs
        have HE : Hid (decOf n0 = s) := by
          show _ = _
          rcases HD.out with ⟨h, _⟩ | ⟨_, h⟩
          · exact absurd h hs
          · rw [h, if_pos (by omega), List.nil_append]
        clear HT HD hm hk hs
        go_wp2
        go_ret
        exact ⟨by rw [HE.out]; rfl, rfl⟩
set_option maxRecDepth 100000 in
set_option maxHeartbeats 2000000 in
theorem same_told (l : List BT) (hl : l.length ≤ 100000) (o1 : Option Addr) (c1 : Nat) (o2 : Option Addr) (c2 : Nat) (w : World) (h1 : CellsW w o1 c1 l) (h2 : CellsW w o2 c2 l) :
    Calls Tryz.prog 20 #[.slice o1 l.length c1, .slice o2 l.length c2] w fun e w' => e = .returned (.bool true) ∧ Below w.heap.size w w' := by
  obtain ⟨n, hn⟩ : ∃ n, n = l.length := ⟨_, rfl⟩
  rw [← hn] at hl ⊢
  have HN := Lib.hid hn
  have H1 : Hid (∀ wr, Below w.heap.size w wr → ∀ k x, l[k]? = some x → ∃ b f, o1 = some ⟨b, f, none⟩ ∧ n ≤ c1 ∧ wr.cell? ⟨b, f + k, none⟩ = some (.string (txt x))) := fun wr hb k x hx => by
    obtain ⟨b, f, h1, h2, h3, h4⟩ := h1.below hb k x hx
    exact ⟨b, f, h1, by rw [HN.out]; exact h3, h4⟩
  have H2 : Hid (∀ wr, Below w.heap.size w wr → ∀ k x, l[k]? = some x → ∃ b f, o2 = some ⟨b, f, none⟩ ∧ n ≤ c2 ∧ wr.cell? ⟨b, f + k, none⟩ = some (.string (txt x))) := fun wr hb k x hx => by
    obtain ⟨b, f, h1, h2, h3, h4⟩ := h2.below hb k x hx
    exact ⟨b, f, h1, by rw [HN.out]; exact h3, h4⟩
  clear h1 h2 hn
  have hb0 : Below w.heap.size w w := Below.refl _ _
  go_enter Tryz.func20, Tryz.ntmps20
  go_wp2_with fail
  go_loopw [5] (fun iv wr => ∃ k : Nat, k ≤ n ∧ iv = .int .i64 k ∧ Below w.heap.size w wr) (fun iv _ => n - (intOf iv).toNat)
  case atStart => exact ⟨0, Nat.zero_le _, rfl, hb0⟩
  case round =>
    clear hb0
    obtain ⟨k, hk, rfl, hb⟩ := hrel
    by_cases hkn : k < n
    · obtain ⟨x, hx⟩ : ∃ x, l[k]? = some x := ⟨l[k]'(by rw [← HN.out]; exact hkn), List.getElem?_eq_getElem _⟩
      obtain ⟨b1, f1, r1, hc1, x1⟩ := H1.out wr hb k x hx
      obtain ⟨b2, f2, r2, hc2, x2⟩ := H2.out wr hb k x hx
      cases r1
      cases r2
      have q1 : k < c1 := by omega
      have q2 : k < c2 := by omega
      have q3 : (0 : Int) ≤ (k : Int) := by omega
      have q4 : (k : Int) < (n : Int) := by omega
      have e1 := tn_f (rfl : x = x)
      have HB8 : Hid (∀ nq, Below w.heap.size w (wr.drewN nq)) := fun nq => below_drewN hb nq
      clear hb hx hc1 hc2
      go_wp2_with fail
      go_quiet (fail)
      go_wp2_with fail
      go_roundw
      case rel => exact ⟨k + 1, hkn, by go_num, HB8.out _⟩
      case measure => simp [intOf]; omega
    · have hkn' : k = n := by omega
      subst k
      have HB := Lib.hid hb
      clear hb
      go_wp2_with fail
      go_ret
      exact ⟨rfl, HB.out⟩
theorem join_told (l : List BT) (o : Option Addr) (c : Nat) (w : World) (h : CellsW w o c l) (hl : l.length ≤ 100000) (hj : (joinT l).length ≤ 100000) :
    Calls Tryz.prog 21 #[.slice o l.length c] w fun e w' => e = .returned (.string (txt (joinT l))) ∧ Below w.heap.size w w' := by
  have := textJoin_any (.slice o l.length c) (l.map txt) w h.reads (by rw [List.length_map]; omega) (by rw [joinOf_isT]; omega)
  rw [joinOf_isT] at this
  exact this
end Go.Proofs.YtfdlcmjjnoapfaaGreatDoor
