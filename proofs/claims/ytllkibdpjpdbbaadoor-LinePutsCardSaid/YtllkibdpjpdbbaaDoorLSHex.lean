/-
  What Hex answers.
-/
import Derived.RangeFuncRecord
import Derived.Test.YtllkibdpjpdbbaaDoorLSWalk
namespace Go.Proofs.YtllkibdpjpdbbaaDoor
open Go.RowKit

theorem and_digit (n : Nat) (hn : n < 4294967296) : bits .and .u32 (n : Int) 15 = ((n % 16 : Nat) : Int) := by
  have := u32_and_nat n 15 hn (by decide)
  rw [show (15 : Nat) = 2 ^ 4 - 1 from rfl, Nat.and_two_pow_sub_one_eq_mod] at this
  exact this
def cellsH (n k : Nat) : Array Value := ((List.replicate (8 - k) 0 ++ digsN n k).map fun c : UInt8 => Value.int .u8 c.toNat).toArray
theorem digs_tab : ∀ k : Fin 16, (⟨#[48, 49, 50, 51, 52, 53, 54, 55, 56, 57, 97, 98, 99, 100, 101, 102]⟩ : ByteArray)[k.1]'(k.2) = hxB k.1 := by decide
theorem dig_tab (k : Nat) (h : k < 16) : (⟨#[48, 49, 50, 51, 52, 53, 54, 55, 56, 57, 97, 98, 99, 100, 101, 102]⟩ : ByteArray)[k]'h = hxB k := digs_tab ⟨k, h⟩
theorem cellsH_size (n k : Nat) (h : k ≤ 8) : (cellsH n k).size = 8 := by simp [cellsH, digs_len]; omega
theorem cellsH_at (n k : Nat) (h : k < 8) : (cellsH n k)[7 - k]? = some (.int .u8 0) := by
  simp [cellsH]
  rw [List.getElem?_append_left (by simp; omega), List.getElem?_replicate_of_lt (by omega)]
theorem cellsH_next (n k : Nat) (h : k < 8) : (cellsH n k).setIfInBounds (7 - k) (.int .u8 (hxB (n / 16 ^ k % 16)).toNat) = cellsH n (k + 1) := by
  unfold cellsH
  rw [show 8 - k = (7 - k) + 1 by omega, show 8 - (k + 1) = 7 - k by omega, List.replicate_succ', digsN]
  apply Array.ext'
  simp only [Array.toList_setIfInBounds, List.map_append, List.append_assoc, List.map_cons, List.map_nil]
  rw [List.set_append_right _ _ (by simp)]
  simp
theorem conv_at (w : World) (g : Nat) (l : List UInt8) (t : TypeId) (cap : Nat) (e : w.heap[g]? = some (.cells (l.map fun c : UInt8 => Value.int .u8 c.toNat).toArray t)) :
    (convert 39 9 (.slice (some ⟨g, 0, none⟩) l.length cap)).run Tryd.prog w = .ok (.string (txt l)) w := by
  refine run_convert_bytes_back _ 39 9 5 ⟨g, 0, none⟩ cap l Tryd.underlying39 Tryd.underlying5 Tryd.underlying9 (fun j hj => ?_)
  have e3 : (⟨g, 0, none⟩ : Addr).add j = ⟨g, j, none⟩ := by unfold Addr.add; split <;> simp_all
  rw [e3]
  unfold World.cell?
  simp only [e]
  simp [hj]
theorem conv_new (w : World) (l : List UInt8) (t : TypeId) (cap : Nat) :
    (convert 39 9 (.slice (some ⟨w.heap.size, 0, none⟩) l.length cap)).run Tryd.prog (w.alloc (.cells (l.map fun c : UInt8 => Value.int .u8 c.toNat).toArray t)) = .ok (.string (txt l)) (w.alloc (.cells (l.map fun c : UInt8 => Value.int .u8 c.toNat).toArray t)) :=
  conv_at _ _ l t cap (World.alloc_heap_new w _)
theorem conv_new_drew (w : World) (l : List UInt8) (t : TypeId) (cap : Nat) :
    (convert 39 9 (.slice (some ⟨w.heap.size, 0, none⟩) l.length cap)).run Tryd.prog (w.alloc (.cells (l.map fun c : UInt8 => Value.int .u8 c.toNat).toArray t)).drew = .ok (.string (txt l)) (w.alloc (.cells (l.map fun c : UInt8 => Value.int .u8 c.toNat).toArray t)).drew :=
  conv_at _ _ l t cap (World.alloc_heap_new w _)
set_option maxRecDepth 100000 in
set_option maxHeartbeats 1000000 in
theorem hex_any (n : Nat) (hn : n < 4294967296) (w : World) : Calls Tryd.prog 38 #[.int .u32 n] w fun e w' => e = .returned (.string (txt (hexN n))) ∧ Below w.heap.size w w' := by
  go_enter Tryd.func38, Tryd.ntmps38
  go_wp2_with fail
  go_loopw [0, 6] (fun v i wr => ∃ (k m : Nat) (C : Array Value), k ≤ 8 ∧ i = .int .i64 k ∧ v = .int .u32 m ∧ Hid (m = n / 16 ^ k) ∧ Hid (C = cellsH n k) ∧ wr = w.alloc (.cells C 80)) (fun _ i _ => 8 - (intOf i).toNat)
  case atStart => exact ⟨0, n, _, Nat.zero_le _, rfl, rfl, by show _ = _; simp, rfl, rfl⟩
  case round =>
    obtain ⟨k, m, C, hk, rfl, rfl, HM, HC, rfl⟩ := hrel
    have hm : m < 4294967296 := by rw [HM.out]; exact Nat.lt_of_le_of_lt (Nat.div_le_self _ _) hn
    by_cases hlt : k < 8
    · have e1 := and_digit m hm
      have e2 : C[7 - k]? = some (.int .u8 0) := by rw [HC.out]; exact cellsH_at n k hlt
      have hd := dig_tab (m % 16) (Nat.mod_lt _ (by decide))
      have HN : Hid (C.setIfInBounds (7 - k) (.int .u8 (hxB (m % 16)).toNat) = cellsH n (k + 1)) := by show _ = _; rw [HC.out, HM.out]; exact cellsH_next n k hlt
      have HD := Lib.hid hd
      have HM2 : Hid (m / 16 = n / 16 ^ (k + 1)) := by show _ = _; rw [HM.out, Nat.div_div_eq_div_mul, ← Nat.pow_succ]
      clear hd
      go_wp2_with fail
      go_roundw
      case rel => exact ⟨k + 1, m / 16, _, hlt, by go_num, by go_num, HM2, HN, by rw [HD.out]⟩
      case measure => simp [intOf]; omega
    · obtain rfl : k = 8 := by omega
      obtain ⟨x0, x1, x2, x3, x4, x5, x6, x7, hx⟩ : ∃ x0 x1 x2 x3 x4 x5 x6 x7, hexN n = [x0, x1, x2, x3, x4, x5, x6, x7] := ⟨_, _, _, _, _, _, _, _, rfl⟩
      have hC : C = #[.int .u8 x0.toNat, .int .u8 x1.toNat, .int .u8 x2.toNat, .int .u8 x3.toNat, .int .u8 x4.toNat, .int .u8 x5.toNat, .int .u8 x6.toNat, .int .u8 x7.toNat] := by
        rw [HC.out, cellsH, show digsN n 8 = _ from hx]; rfl
      subst hC
      have HX := Lib.hid hx
      clear hx HC HM
      have hcv : (convert 39 9 (.slice (some ⟨w.heap.size, 0, none⟩) 8 8)).run Tryd.prog (w.alloc (.cells #[.int .u8 x0.toNat, .int .u8 x1.toNat, .int .u8 x2.toNat, .int .u8 x3.toNat, .int .u8 x4.toNat, .int .u8 x5.toNat, .int .u8 x6.toNat, .int .u8 x7.toNat] 80)) = .ok (.string (txt [x0, x1, x2, x3, x4, x5, x6, x7])) (w.alloc (.cells #[.int .u8 x0.toNat, .int .u8 x1.toNat, .int .u8 x2.toNat, .int .u8 x3.toNat, .int .u8 x4.toNat, .int .u8 x5.toNat, .int .u8 x6.toNat, .int .u8 x7.toNat] 80)) := by
        exact conv_new w [x0, x1, x2, x3, x4, x5, x6, x7] 80 8
      go_wp2_with fail
      go_ret
      exact ⟨by rw [HX.out]; rfl, (Below.refl _ _).alloc (Nat.le_refl _) _⟩

end Go.Proofs.YtllkibdpjpdbbaaDoor
