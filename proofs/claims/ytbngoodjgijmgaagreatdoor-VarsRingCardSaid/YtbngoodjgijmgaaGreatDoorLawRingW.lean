/-
  The walk over VarsRing. No condition.
-/
import Derived.Test.YtbngoodjgijmgaaGreatDoorVRg
namespace Go.Proofs.YtbngoodjgijmgaaGreatDoor
open Go.RowKit Go.Shelf
attribute [local go_sem] Oper.semAt_some

def nmR (j : Nat) : UInt8 := UInt8.ofNat (97 + j)
def ringV (s : BT) (n i : Nat) : VarT := ([nmR i], s ++ [36, 40, nmR ((i + 1) % n), 41], false)
def ringE (s : BT) (n i : Nat) : EnvT := rowsE ((List.range i).map (ringV s n))
theorem ring_succ (s : BT) (n i : Nat) : ringE s n (i + 1) = setT (ringE s n i) (ringV s n i) := by
  unfold ringE
  rw [List.range_succ, List.map_append, List.map_singleton, rows_snoc]
theorem nm_inj {i j : Nat} (hi : i < 10) (hj : j < 10) (h : nmR i = nmR j) : i = j := by
  have := congrArg UInt8.toNat h
  unfold nmR at this
  simp only [UInt8.toNat_ofNat'] at this
  omega
theorem ring_get (s : BT) (n : Nat) : ∀ (i j : Nat), i ≤ 10 → j < i → getT (ringE s n i) [nmR j] = some (ringV s n j)
  | 0, _, _, h => absurd h (Nat.not_lt_zero _)
  | i + 1, j, hi, hj => by
    rw [ring_succ, get_set _ (show SrtT (ringE s n i) from rows_srt _)]
    by_cases h : j = i
    · subst h; exact if_pos rfl
    · rw [if_neg (fun e => h (nm_inj (by omega) (by omega) (by
        have : [nmR j] = [nmR i] := e
        simpa using this)))]
      exact ring_get s n i j (by omega) (by omega)
theorem nm_good : ∀ j : Fin 10, nmR j.val ≠ 41 ∧ nmR j.val ≠ 58 ∧ blankB (nmR j.val) = false ∧ nmR j.val ≠ 36 := by decide
theorem ring_is (s : BT) (n : Nat) (h1 : 1 ≤ n) (h9 : n ≤ 9) : RingE (ringE s n n) (fun c => ∃ j, j < n ∧ c = nmR j) s := by
  rintro c ⟨j, hj, rfl⟩
  obtain ⟨a, b, d, e⟩ := nm_good ⟨j, by omega⟩
  exact ⟨a, b, d, e, nmR ((j + 1) % n), ⟨_, Nat.mod_lt _ (by omega), rfl⟩, ring_get s n n j (by omega) hj⟩
theorem ring_told (s : BT) (n : Nat) (h1 : 1 ≤ n) (h9 : n ≤ 9) (hs : 36 ∉ s) : expandT (ringE s n n) [36, 40, 97, 41] = ([], 15) :=
  ring_expand hs (ring_is s n h1 h9) ⟨0, by omega, rfl⟩
theorem ring_ok (s : BT) (n i : Nat) (hs : s.length ≤ 50) (hi : i ≤ 10) : EnvOk (ringE s n i) 20 := by
  refine ⟨rows_srt _, ?_, fun x hx => ?_⟩
  · have := rows_len ((List.range i).map (ringV s n))
    unfold ringE
    simp at this
    omega
  · obtain ⟨j, _, rfl⟩ := List.mem_map.1 (rows_mem hx)
    unfold ringV
    simp
    omega
theorem nm_cut : ∀ j : Fin 10, (⟨#[97, 98, 99, 100, 101, 102, 103, 104, 105, 106]⟩ : ByteArray).extract j.val (j.val + 1) = txt [nmR j.val] := by decide
structure RingAt (w : World) (s : BT) (n i : Nat) (W : World) : Prop where
  back : Below w.heap.size w W
  v : ∃ o m c, W.heap[w.heap.size]? = some (.cells #[.slice o m c] 25 (0, 0)) ∧ EnvS W (fun b => w.heap.size + 1 ≤ b) (.slice o m c) (ringE s n i)
theorem RingAt.put {w W W' : World} {s : BT} {n i : Nat} {o : Option Addr} {m c : Nat} (h : RingAt w s n i W) (hb : Below W.heap.size W W') (hE : EnvS W' (fun b => W.heap.size ≤ b) (.slice o m c) (setT (ringE s n i) (ringV s n i))) :
    RingAt w s n (i + 1) (W'.setCell ⟨w.heap.size, 0, none⟩ (.slice o m c)) := by
  obtain ⟨o1, m1, c1, h1, _⟩ := h.v
  have hlt := (Array.getElem?_eq_some_iff.1 h1).1
  refine ⟨(h.back.trans (hb.mono h.back.size)).setCell (p := ⟨w.heap.size, 0, none⟩) (Nat.le_refl _) _, o, m, c, set_one ((hb.block _ hlt).trans h1) _, ?_⟩
  rw [ring_succ]
  exact (hE.turned (X := fun b => b = w.heap.size) (Turned.setCell (X := fun b => b = w.heap.size) _ ⟨w.heap.size, 0, none⟩ _ rfl) (fun b hb h => by omega)).wider (fun b _ hb => by omega)
theorem ring_text (S : BT) (r : UInt8) : txt S ++ ⟨#[36, 40]⟩ ++ txt [r] ++ ⟨#[41]⟩ = txt (S ++ [36, 40, r, 41]) := by
  show txt S ++ txt [36, 40] ++ txt [r] ++ txt [41] = _
  rw [add_txt, add_txt, add_txt]
  congr 1
  simp
set_option maxRecDepth 100000 in
set_option maxHeartbeats 4000000 in
theorem varsRing_walk (many : Int) (hm : -9223372036854775808 ≤ many ∧ many ≤ 9223372036854775807) (s : ByteArray) (hs : s.size ≤ maxLen) (w : World) (hst : Std w) :
    Calls Tryz.prog 8 #[.int .i64 many, .string s] w fun e w' => e = .returned (.bool true) ∧ Below w.heap.size w w' := by
  obtain ⟨hm0, hm1⟩ := hm
  have HSh := Lib.hid (shown_any w hst)
  have hsm : s.size ≤ 9223372036854775807 := hs
  by_cases h50 : (50 : Int) < (s.size : Int)
  · go_enter Tryz.func8, Tryz.ntmps8
    go_wp2_with fail
    refine HSh.out.mono ?_
    rintro e w1 ⟨rfl, hb1⟩
    have HB1 := Lib.hid hb1
    clear hb1 HSh
    go_wp2_with fail
    go_ret
    exact ⟨rfl, HB1.out⟩
  have hs50 : s.size ≤ 50 := by omega
  obtain ⟨n, hn, hn1, hn9⟩ : ∃ n : Nat, (n : Int) = 1 + max (many.tmod 9) (-(many.tmod 9)) ∧ 1 ≤ n ∧ n ≤ 9 := by
    have h1 : (many.tmod 9).natAbs < 9 := by
      rw [Int.natAbs_tmod]
      exact Nat.mod_lt _ (by decide)
    exact ⟨(1 + max (many.tmod 9) (-(many.tmod 9))).toNat, by omega, by omega, by omega⟩
  go_enter Tryz.func8, Tryz.ntmps8
  go_wp2_with fail
  refine HSh.out.mono ?_
  rintro e w1 ⟨rfl, hb1⟩
  have HB1 := Lib.hid hb1
  clear hb1 HSh
  go_wp2_with fail
  go_loop [6] (fun i => ∃ k : Nat, k ≤ s.size ∧ i = .int .i64 k ∧ Hid (36 ∉ s.data.toList.take k)) (fun i => s.size - (intOf i).toNat)
  case atStart => exact ⟨0, Nat.zero_le _, rfl, by show _ ∉ _; simp⟩
  case round =>
    obtain ⟨k, hk, rfl, HC⟩ := hrel
    by_cases hlt : k < s.size
    · by_cases h36 : s[k] = 36
      · have h36' : (s[k].toNat : Int) = 36 := by rw [h36]; rfl
        go_wp2_with fail
        go_ret
        exact ⟨rfl, HB1.out⟩
      · have h36' : ¬ (s[k].toNat : Int) = 36 := fun e => h36 (by
          apply UInt8.toNat_inj.1
          have : s[k].toNat = 36 := by omega
          rw [this]; rfl)
        have HN : Hid (36 ∉ s.data.toList.take (k + 1)) := by
          show _ ∉ _
          rw [take_last hlt]
          intro hh
          rcases List.mem_append.1 hh with h | h
          · exact HC.out h
          · exact h36 (List.mem_singleton.1 h).symm
        clear h36
        go_wp2_with fail
        go_round
        case rel => exact ⟨k + 1, hlt, by go_num, HN⟩
        case measure => simp [intOf]; omega
    · have H36 : Hid (36 ∉ s.data.toList) := by
        show _ ∉ _
        have := HC.out
        rwa [List.take_of_length_le (by rw [size_list]; omega)] at this
      clear HC
      obtain ⟨S, rfl⟩ : ∃ S, s = txt S := ⟨_, (txt_toList s).symm⟩
      rw [txt_data] at H36
      rw [txt_size] at hs50
      have hb0 : Below w1.heap.size w1 (w1.alloc (.cells #[.slice none 0 0] 25)) := (Below.refl _ _).alloc (Nat.le_refl _) _
      have HA0 : Hid (RingAt w1 S n 0 (w1.alloc (.cells #[.slice none 0 0] 25))) := ⟨hb0, none, 0, 0, World.alloc_heap_new _ _, EnvS.nil _ _⟩
      have HSt : Hid (Std w1) := hst.below HB1.out
      clear hb0 hst
      go_wp2_with fail
      rw [← hn]
      clear hn
      go_loopw [9] (fun iv wr => ∃ i : Nat, i ≤ n ∧ iv = .int .i64 i ∧ Hid (RingAt w1 S n i wr)) (fun iv _ => n - (intOf iv).toNat)
      case atStart => exact ⟨0, Nat.zero_le _, rfl, HA0⟩
      case round =>
        obtain ⟨i, hi, rfl, HA⟩ := hrel
        obtain ⟨o1, m1, c1, p1, e1⟩ := HA.out.v
        obtain ⟨y1, f1⟩ := one_cell p1
        by_cases hlt : i < n
        · obtain ⟨r, hr⟩ : ∃ r, r = (i + 1) % n := ⟨_, rfl⟩
          have hrn : r < n := by rw [hr]; exact Nat.mod_lt _ (by omega)
          have hmod : ((i : Int) + 1).tmod (n : Int) = (r : Int) := by
            rw [hr, show ((i : Int) + 1) = ((i + 1 : Nat) : Int) by push_cast; rfl]
            rw [Int.tmod_eq_emod_of_nonneg (by omega)]
            push_cast; rfl
          have hw1 : IntKind.i64.wrap ((i : Int) + 1) = (i : Int) + 1 := by rw [IntKind.wrap_i64]; omega
          have hw2 : IntKind.i64.wrap ((r : Int) + 1) = (r : Int) + 1 := by rw [IntKind.wrap_i64]; omega
          have hil : (i : Int) < (n : Int) := by omega
          have hn0 : ¬ (n : Int) = 0 := by omega
          have hn0' : ((n : Int) == 0) = false := by rw [beq_eq_false_iff_ne]; omega
          have b1 : (0 : Int) ≤ (i : Int) := by omega
          have b2 : (i : Int) ≤ (i : Int) + 1 := by omega
          have b3 : (i : Int) + 1 ≤ 10 := by omega
          have b4 : (0 : Int) ≤ (r : Int) := by omega
          have b5 : (r : Int) ≤ (r : Int) + 1 := by omega
          have b6 : (r : Int) + 1 ≤ 10 := by omega
          have x1 := nm_cut ⟨i, by omega⟩
          have x2 := nm_cut ⟨r, by omega⟩
          dsimp only at x1 x2
          have HRr := Lib.hid hr
          clear hr
          have HSet : Hid (∀ q, Calls Tryz.prog 21 #[.agg #[.slice o1 m1 c1], .agg #[.string (txt [nmR i]), .string (txt S ++ ⟨#[36, 40]⟩ ++ txt [nmR r] ++ ⟨#[41]⟩), .bool false]] (wr.drewN q) fun e w' => ∃ o m c, e = .returned (.agg #[.slice o m c]) ∧ Below wr.heap.size wr w' ∧ EnvS w' (fun b => wr.heap.size ≤ b) (.slice o m c) (setT (ringE S n i) (ringV S n i))) := fun q => by
            rw [ring_text]
            have h9 := set_any _ (.slice o1 m1 c1) (ringE S n i) (ringV S n i) (wr.drewN q) e1 (by have := (ring_ok S n i hs50 (by omega)).2.1; omega) (show SrtT (ringE S n i) from rows_srt _)
            have h8 : Calls Tryz.prog 21 #[.agg #[.slice o1 m1 c1], .agg #[.string (txt [nmR i]), .string (txt (S ++ [36, 40, nmR r, 41])), .bool false]] (wr.drewN q) (SetPost (ringE S n i) (ringV S n i) (wr.drewN q)) := by
              rw [HRr.out]; exact h9
            refine h8.mono ?_
            rintro e w' ⟨v', rfl, hE, hb⟩
            obtain ⟨o, m, c, rfl⟩ := hE.slice
            exact ⟨o, m, c, rfl, (show Below wr.heap.size wr (wr.drewN q) from below_drewN (Below.refl _ _) q).trans hb, hE⟩
          have HP1 := Lib.hid p1
          clear e1 p1
          go_wp2_with fail
          go_quiet (fail)
          go_wp2_with fail
          refine (HSet.out _).mono ?_
          rintro e w3 ⟨o3, m3, c3, rfl, hb3, hE3⟩
          obtain ⟨j1, j2⟩ := one_cell ((hb3.block _ (Array.getElem?_eq_some_iff.1 HP1.out).1).trans HP1.out)
          have HN := Lib.hid (HA.out.put hb3 hE3)
          clear hb3 hE3 HSet
          go_wp2_with fail
          generalize w3.setCell ⟨w1.heap.size, 0, none⟩ (.slice o3 m3 c3) = w4 at HN ⊢
          go_wp2_with fail
          go_roundw
          case rel => exact ⟨i + 1, hlt, by go_num, HN⟩
          case measure => simp [intOf]; omega
        · have hin : i = n := by omega
          subst hin
          have hil : ¬ (i : Int) < (i : Int) := by omega
          have hX := expand_any _ o1 m1 c1 (ringE S i i) [36, 40, 97, 41] wr (HSt.out.below HA.out.back) e1 (ring_ok S i i hs50 (by omega)) (by simp)
          unfold ExpandPost at hX
          rw [ring_told S i hn1 hn9 H36.out] at hX
          have HX : Hid (Calls Tryz.prog 13 #[.agg #[.slice o1 m1 c1], .string ⟨#[36, 40, 97, 41]⟩] wr fun e w' => e = .returned (.tuple #[.string ⟨#[]⟩, .int .i64 15]) ∧ Below wr.heap.size wr w') := hX
          clear hX p1 e1
          go_wp2_with fail
          refine HX.out.mono ?_
          rintro e w3 ⟨rfl, hb3⟩
          have HB3 := Lib.hid hb3
          clear hb3
          go_wp2_with fail
          go_ret
          exact ⟨rfl, HB1.out.trans ((HA.out.back.trans (HB3.out.mono HA.out.back.size)).mono HB1.out.size)⟩
end Go.Proofs.YtbngoodjgijmgaaGreatDoor
