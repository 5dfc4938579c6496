/-
  What the functions of package sum answer.
-/
import Derived.WalkKit
import Derived.Below
import Derived.Deep.QuietTactic
import Derived.BigQuiet
import Derived.Lib.Hide
import Derived.Outline
import Derived.Deep.RegionHeld3
import Derived.Deep.RegionWith
import Derived.Deep.LoopGhost
import Derived.IntWalk
import Derived.Laws.BitsAllLaws
import Derived.Laws.BitsLemmas
import Derived.Test.YtllkibdpjpdbbaaDoorLSMath
import Derived.Test.YtllkibdpjpdbbaaDoorProg
namespace Go.Proofs.YtllkibdpjpdbbaaDoor
open Go.RowKit

def aggN (h : Nat × Nat) : Value := .agg #[.int .u32 h.1, .int .u32 h.2]
theorem and_half (n : Nat) (hn : n < 4294967296) : bits .and .u32 (n : Int) 65535 = ((n % 65536 : Nat) : Int) := by
  have := u32_and_nat n 65535 hn (by decide)
  rw [show (65535 : Nat) = 2 ^ 16 - 1 from rfl, Nat.and_two_pow_sub_one_eq_mod] at this
  exact this
theorem or_halves (a b : Nat) (ha : a < 65521) (hb : b < 65521) : bits .or .u32 ((b : Int) * 65536) (a : Int) = ((b * 65536 + a : Nat) : Int) := by
  have := u32_or_nat (b * 65536) a (by omega) (by omega)
  rw [show b * 65536 ||| a = b * 65536 + a from by
    have h := Nat.two_pow_add_eq_or_of_lt (i := 16) (b := a) (by omega) b
    rw [show 2 ^ 16 * b = b * 65536 by omega] at h
    exact h.symm] at this
  rw [show (b : Int) * 65536 = ((b * 65536 : Nat) : Int) by omega]
  exact this
theorem agg_eq {a b : Int} {h : Nat × Nat} (ha : a = h.1) (hb : b = h.2) : Ending.returned (.agg #[.int .u32 a, .int .u32 b]) = .returned (aggN h) := by rw [ha, hb]; rfl
set_option maxHeartbeats 400000 in
theorem split_any (n : Nat) (hn : n < 4294967296) (w : World) : Calls Tryd.prog 65 #[.int .u32 n] w fun e w' => e = .returned (aggN (halvesN n)) ∧ Below w.heap.size w w' := by
  have e1 := and_half n hn
  go_enter Tryd.func65, Tryd.ntmps65
  go_wp2
  refine bodyPost_ret (v := aggN (halvesN n)) ?_ rfl ⟨rfl, (Below.refl _ _).alloc (Nat.le_refl _) _⟩
  simp [results, Tryd.results65, go_sem]
  rfl
set_option maxHeartbeats 400000 in
theorem with_any (a b : Nat) (ha : a < 65521) (hb : b < 65521) (c : UInt8) (w : World) : Calls Tryd.prog 66 #[.agg #[.int .u32 a, .int .u32 b], .int .u8 c.toNat] w fun e w' => e = .returned (aggN (stepN (a, b) c)) ∧ Below w.heap.size w w' := by
  have hc := UInt8.toNat_lt c
  have HE : Hid (((b : Int) + ((a : Int) + c.toNat)) % 65521 = (((b + (a + c.toNat) % 65521) % 65521 : Nat) : Int)) := by show _ = _; omega
  go_enter Tryd.func66, Tryd.ntmps66
  go_wp2
  refine bodyPost_ret (v := aggN (stepN (a, b) c)) ?_ rfl ⟨rfl, ((Below.refl _ _).alloc (Nat.le_refl _) _).alloc (by simp) _⟩
  simp [results, Tryd.results66, go_sem]
  rw [HE.out]
  rfl
set_option maxHeartbeats 400000 in
theorem joined_any (a b : Nat) (ha : a < 65521) (hb : b < 65521) (w : World) : Calls Tryd.prog 67 #[.agg #[.int .u32 a, .int .u32 b]] w fun e w' => e = .returned (.int .u32 (joinN (a, b))) ∧ Below w.heap.size w w' := by
  have e1 := or_halves a b ha hb
  go_enter Tryd.func67, Tryd.ntmps67
  go_wp2
  go_ret
  exact ⟨rfl, (Below.refl _ _).alloc (Nat.le_refl _) _⟩
def AtN (B g : Nat) (a b : Nat) (w w' : World) : Prop := w'.cell? ⟨g, 0, none⟩ = some (.int .u32 a) ∧ w'.cell? ⟨g, 1, none⟩ = some (.int .u32 b) ∧ w'.frozen? ⟨g, 0, none⟩ = false ∧ w'.frozen? ⟨g, 1, none⟩ = false ∧ g < w'.heap.size ∧ Below B w w'
theorem AtN.below {B g a b : Nat} {w wq w' : World} (h : AtN B g a b w wq) (hgB : B ≤ g) (hb : Below wq.heap.size wq w') : AtN B g a b w w' := by
  obtain ⟨h0, h1, f0, f1, hg, hB⟩ := h
  have hz := hb.size
  exact ⟨(hb.cell (p := ⟨g, 0, none⟩) hg).trans h0, (hb.cell (p := ⟨g, 1, none⟩) hg).trans h1, (hb.frozen (p := ⟨g, 0, none⟩) hg).trans f0, (hb.frozen (p := ⟨g, 1, none⟩) hg).trans f1, by omega, hB.trans (hb.mono (by omega))⟩
theorem AtN.drew {B g a b : Nat} {w wq : World} (h : AtN B g a b w wq) : AtN B g a b w wq.drew := by
  obtain ⟨h0, h1, f0, f1, hg, hB⟩ := h
  exact ⟨h0, h1, f0, f1, hg, hB.drew⟩
theorem AtN.put {B g a b : Nat} {w wq : World} (h : AtN B g a b w wq) (hg : B ≤ g) (a' b' : Nat) : AtN B g a' b' w ((wq.setCell ⟨g, 0, none⟩ (.int .u32 a')).setCell ⟨g, 1, none⟩ (.int .u32 b')) := by
  obtain ⟨h0, h1, f0, f1, hg', hB⟩ := h
  have n1 : (⟨g, 0, none⟩ : Addr) ≠ ⟨g, 1, none⟩ := by simp
  have e1 : (wq.setCell ⟨g, 0, none⟩ (.int .u32 a')).cell? ⟨g, 1, none⟩ = some (.int .u32 b) := (World.cell?_setCell_other _ _ _ _ n1).trans h1
  exact ⟨(World.cell?_setCell_other _ _ _ _ n1.symm).trans (World.cell?_setCell_same _ _ _ h0), World.cell?_setCell_same _ _ _ e1, by simpa using f0, by simpa using f1, by simpa using hg', (hB.setCell hg _).setCell hg _⟩
set_option maxRecDepth 100000 in
set_option maxHeartbeats 1000000 in
theorem add_any (n : Nat) (hn : n < 4294967296) (s : ByteArray) (hs : s.size ≤ maxLen) (w : World) : Calls Tryd.prog 52 #[.int .u32 n, .string s] w fun e w' => e = .returned (.int .u32 (addN n s.data.toList)) ∧ Below w.heap.size w w' := by
  unfold maxLen at hs
  obtain ⟨a0, b0, h0⟩ : ∃ a b, halvesN n = (a, b) := ⟨_, _, rfl⟩
  have hsp := split_any n hn
  rw [h0] at hsp
  have HS : Hid (∀ w, Calls Tryd.prog 65 #[.int .u32 n] w fun e w' => e = .returned (.agg #[.int .u32 a0, .int .u32 b0]) ∧ Below w.heap.size w w') := hsp
  have H0 := Lib.hid h0
  clear hsp h0
  go_enter Tryd.func52, Tryd.ntmps52
  go_wp2_with fail
  refine (HS.out _).mono ?_
  rintro e w1 ⟨rfl, hb1⟩
  have hz1 := hb1.size
  go_wp2_with fail
  go_loopw [11, 6] (fun i _ wr => ∃ k a b : Nat, k ≤ s.size ∧ i = .int .i64 k ∧ Hid (runN (halvesN n) (s.data.toList.take k) = (a, b)) ∧ AtN w.heap.size w1.heap.size a b w wr) (fun i _ _ => s.size - (intOf i).toNat)
  case atStart => exact ⟨0, a0, b0, Nat.zero_le _, rfl, H0.out, by simp, by simp, by simp, by simp, by simp, hb1.alloc hz1 _⟩
  case round =>
    obtain ⟨k, a, b, hk, rfl, HR, hc0, hc1, hf0, hf1, hg, hB⟩ := hrel
    have hlow : LowN (a, b) := by rw [← HR.out]; exact run_low (halves_low n) _
    obtain ⟨ha, hb⟩ := hlow
    have ha : a < 65521 := ha
    have hb : b < 65521 := hb
    by_cases hlt : k < s.size
    · obtain ⟨a', b', h'⟩ : ∃ a' b', stepN (a, b) s[k] = (a', b') := ⟨_, _, rfl⟩
      have HR' : Hid (runN (halvesN n) (s.data.toList.take (k + 1)) = (a', b')) := by show _ = _; rw [run_take _ s k hlt, HR.out, h']
      have hw := with_any a b ha hb s[k]
      rw [h'] at hw
      have HW : Hid (∀ wq, AtN w.heap.size w1.heap.size a b w wq → Calls Tryd.prog 66 #[.agg #[.int .u32 a, .int .u32 b], .int .u8 s[k].toNat] wq fun e w' => e = .returned (.agg #[.int .u32 a', .int .u32 b']) ∧ AtN w.heap.size w1.heap.size a b w w') :=
        fun wq hq => (hw wq).mono fun e w' h => ⟨h.1, hq.below hz1 h.2⟩
      have HA : AtN w.heap.size w1.heap.size a b w wr := ⟨hc0, hc1, hf0, hf1, hg, hB⟩
      clear hw h'
      go_wp2_with fail
      go_region_with (go_at_call 66; refine (HW.out _ (by first | assumption | exact HA.drew)).mono ?_; rintro e w2 ⟨rfl, HA2⟩; obtain ⟨gc0, gc1, gf0, gf1, gg, gB⟩ := id HA2)
      all_goals
        have HA3 := HA2.put hz1 a' b'
        clear HW HA HA2 gc0 gc1 gf0 gf1 gg gB hc0 hc1 hf0 hf1 hg hB
        go_wp2_with fail
        go_roundw
        case rel => exact ⟨k + 1, a', b', hlt, by go_num, HR', HA3⟩
        case measure => simp [intOf]; omega
    · have HJ := Lib.hid (joined_any a b ha hb)
      go_wp2_with fail
      refine (HJ.out _).mono ?_
      rintro e w2 ⟨rfl, hb2⟩
      go_wp2_with fail
      go_ret
      refine ⟨?_, hB.trans (hb2.mono hB.size)⟩
      have e1 := HR.out
      rw [List.take_of_length_le (by rw [Array.length_toList]; exact Nat.le_of_not_lt hlt)] at e1
      rw [addN, e1]
      rfl

end Go.Proofs.YtllkibdpjpdbbaaDoor
