/-
  What JournalKeeps answers: true.
-/
import Derived.Deep.RegionHeld3
import Derived.Deep.QuietTactic
import Derived.BigQuiet
import Derived.Test.YtgnappifekacpaaGreatDoorJKeep
namespace Go.Proofs.YtgnappifekacpaaGreatDoor
open Go.RowKit Go.Shelf Go.Maps

set_option maxRecDepth 100000 in
set_option maxHeartbeats 16000000 in
theorem journalKeeps_walk (v0 : Value) (xs0 : List (List ByteArray)) (hn0 : xs0.length ≤ maxLen) (hz0 : ∀ l ∈ xs0, l.length ≤ maxLen ∧ ∀ x ∈ l, x.size ≤ maxLen) (i1 : Int) (hi1 : -9223372036854775808 ≤ i1 ∧ i1 ≤ 9223372036854775807) (i2 : Int) (hi2 : -9223372036854775808 ≤ i2 ∧ i2 ≤ 9223372036854775807) (i3 : Int) (hi3 : -9223372036854775808 ≤ i3 ∧ i3 ≤ 9223372036854775807) (w : World) (hr0 : ReadsLL w w.heap.size v0 xs0) :
    Calls Tryz.prog 4 #[v0, .int .i64 i1, .int .i64 i2, .int .i64 i3] w (LawPost w) := by
  have HSh := Lib.hid (shown_at w)
  have HT0 := Lib.hid (tiny_at hr0 hn0 hz0)
  have HBg := Lib.hid (begun_at 1048576 (by omega) (by omega) w)
  have hb0 : Below w.heap.size w w := Below.refl _ _
  cases ht0 : tinyB xs0 with
  | false =>
    rw [ht0] at HT0
    clear hr0 hn0 hz0 hi1 hi2 hi3 ht0
    go_enter Tryz.func4, Tryz.ntmps4
    go_wp2_with (first
      | (go_at_call 8; refine (HSh.out _ hb0).mono ?_; rintro e w2 ⟨rfl, hb2⟩)
      | (go_at_call 29; with_reducible refine (HT0.out _ hb2).mono ?_; rintro e w3 ⟨rfl, rfl⟩)
      | (go_at_call 10; refine (HBg.out _ hb2).mono ?_; rintro e w1 ⟨bt, bm, rfl, h0⟩))
    go_ret
    exact ⟨rfl, boxBack h0⟩
  | true =>
    rw [ht0] at HT0
    obtain ⟨q0, q1, q2, q3⟩ := tiny_okb ht0
    have hxl : xs0.length ≤ 20 := (tiny_all ht0).1
    clear hn0 hz0 ht0
    have HR0 : Hid (∀ W, Below w.heap.size w W → ReadsLL W W.heap.size v0 xs0) := fun W hb => hr0.below hb hb.size
    have HR1 := Lib.hid hr0
    obtain ⟨o0, c0, rfl, _⟩ := hr0
    obtain ⟨K, hK0⟩ : ∃ K, K = pickZ i1 (xs0.length + 1) := ⟨_, rfl⟩
    have HPk : Hid (∀ W, Calls Tryz.prog 11 #[.int .i64 i1, .int .i64 ((xs0.length : Int) + 1)] W fun e w' => e = .returned (.int .i64 (K : Nat)) ∧ W = w') := fun W => by
      rw [hK0]; exact pick_any i1 hi1 (xs0.length + 1) (by omega) (by omega) W
    clear hK0
    go_enter Tryz.func4, Tryz.ntmps4
    go_wp2_with (first
      | (go_at_call 8; refine (HSh.out _ hb0).mono ?_; rintro e w2 ⟨rfl, hb2⟩)
      | (go_at_call 29; with_reducible refine (HT0.out _ hb2).mono ?_; rintro e w3 ⟨rfl, rfl⟩)
      | (go_at_call 10; refine (HBg.out _ hb2).mono ?_; rintro e w1 ⟨bt, bm, rfl, h0'⟩; have h0 := Box.bx h0'; have hm0 := bxAt h0; clear h0')
      | (go_at_call 11; refine (HPk.out _).mono ?_; rintro e w4 ⟨rfl, rfl⟩))
    clear HSh HT0 HBg HPk hb2
    obtain ⟨S0, hS0⟩ : ∃ S0 : St, S0 = (0, [], [], []) := ⟨_, rfl⟩
    rw [← hS0] at h0
    have g0 : Good 1048576 0 S0 := by rw [hS0]; exact Good.new (by omega) (by omega)
    have K0 : Kept6 LGL S0 (rawLL []) 0 := by rw [hS0]; exact Kept6.new LGL
    go_loopw [13, 14, 16] (fun inv sy iv wr => ∃ (k sN : Nat) (S : St) (W5 : World) (Z5 P : Nat → Prop) (fs : List (List ByteArray)) (io : Option Addr) (ic : Nat), k ≤ xs0.length ∧ iv = .int .i64 k ∧ inv = .slice io fs.length ic ∧ sy = .int .i64 sN ∧ Good 1048576 k S ∧ Kept6 LGL S (rawLL fs) sN ∧ Bx w w1.heap.size bt bm W5 Z5 1048576 [(false, bt, S), (true, bm, S0)] wr ∧ RowIn w w1.heap.size W5 Z5 P (.slice io fs.length ic) fs ∧ fs.length ≤ k) (fun _ _ iv _ => xs0.length - (intOf iv).toNat)
    case atStart => exact ⟨0, 0, S0, _, _, _, [], none, 0, Nat.zero_le _, rfl, rfl, rfl, g0, K0, h0, RowIn.nil _ _ _ _, Nat.le_refl _⟩
    case round =>
      obtain ⟨k, sN, S, W5, Z5, P, fs, io, ic, hk, rfl, rfl, rfl, hg, hK, hcr, hR, hfk⟩ := hrel
      have hm1 := bxAt hcr
      by_cases hlt : k < xs0.length
      · obtain ⟨o2, c2, hv2, hx2⟩ := HR1.out
        cases hv2
        obtain ⟨b, f, u, rfl, hbw, hkc, hcell, uo, uc, rfl, hux⟩ := hx2 k _ (List.getElem?_eq_getElem hlt)
        have hkc' : k < c0 := by omega
        have hxm := q1 xs0[k] (List.getElem_mem hlt)
        have HU0 : Hid (ReadsO w w.heap.size (.slice uo xs0[k].length uc) xs0[k]) := ⟨uo, uc, rfl, hux⟩
        have HU : Hid (∀ W, Below w.heap.size w W → ReadsO W W.heap.size (.slice uo xs0[k].length uc) xs0[k]) := fun W hb => HU0.out.below hb hb.size
        have HC : Hid (∀ l W, Bx w w1.heap.size bt bm W5 Z5 1048576 l W → W.cell? ⟨b, f + k, none⟩ = some (.slice uo xs0[k].length uc)) := fun l W h => ((bxBack h).cell (p := ⟨b, f + k, none⟩) hbw).trans hcell
        have HB : Hid (∀ l W, Bx w w1.heap.size bt bm W5 Z5 1048576 l W → W.cell? ⟨w1.heap.size, 0, none⟩ = some (.pointer (some ⟨bt, 0, none⟩)) ∧ W.cell? ⟨w1.heap.size, 1, none⟩ = some (.pointer (some ⟨bm, 0, none⟩))) := fun l W h => bxAt h
        clear hx2 hux hcell
        generalize xs0[k] = x at *
        by_cases hkK : k = K
        · have e1 : ((k : Int) == (K : Int)) = true := by simp [hkK]
          have hK' : Kept6 LGL (opS S) (rawLL fs) fs.length := by
            have := hK.sync hg
            rwa [show (rawLL fs).length = fs.length by simp [rawLL]] at this
          have hg' := hg.opS
          have HS : Hid (∀ W, Bx w w1.heap.size bt bm W5 Z5 1048576 [(false, bt, S), (true, bm, S0)] W → Calls Tryz.prog 20 #[.pointer (some ⟨bt, 0, none⟩)] W fun r w' => r = .returned (.tuple #[]) ∧ Bx w w1.heap.size bt bm W5 Z5 1048576 [(false, bt, opS S), (true, bm, S0)] w') := fun W h => h.sync hg
          clear hkK
          go_wp2_with (go_at_call 20; refine (HS.out _ hcr).mono ?_; rintro e w6 ⟨rfl, h6⟩; have hm6 := bxAt h6)
          have hcrd := Bx.below h6 (below_drew (Below.refl _ _))
          obtain ⟨cd, hcd⟩ : ∃ cd, cd = (jAdd 1048576 (opS S) LGL (rawOf x)).1 := ⟨_, rfl⟩
          obtain ⟨S8, hS8⟩ : ∃ S8, S8 = (jAdd 1048576 (opS S) LGL (rawOf x)).2 := ⟨_, rfl⟩
          have g8 : Good 1048576 (k + 1) S8 := by rw [hS8]; exact hg'.jAdd _ _
          have H4 : Hid (∀ W, Bx w w1.heap.size bt bm W5 Z5 1048576 [(false, bt, (opS S)), (true, bm, S0)] W → Calls Tryz.prog 12 #[.pointer (some ⟨bt, 0, none⟩), .string ⟨#[108, 111, 103]⟩, .slice uo x.length uc] W fun r w' => r = .returned (.int .i64 cd) ∧ Bx w w1.heap.size bt bm W5 Z5 1048576 [(false, bt, S8), (true, bm, S0)] w') := fun W h => by
            have := h.jadd hg' (by omega) ⟨#[108, 111, 103]⟩ (by decide) (.slice uo x.length uc) x (HU.out W (bxBack h)) hxm
            rw [show (⟨#[108, 111, 103]⟩ : ByteArray).data.toList = LGL from rfl, ← hcd, ← hS8] at this
            exact this
          by_cases hz : cd = 0
          · have hK8 : Kept6 LGL S8 (rawLL (fs ++ [x])) fs.length := by
              have h1 := hK'.add (room := 1048576) (x := rawOf x) (by rw [← hcd]; exact hz)
              rw [← hS8] at h1
              have e : rawLL (fs ++ [x]) = rawLL fs ++ [rawOf x] := by simp [rawLL]
              rw [e]; exact h1
            have H5 : Hid (∀ W, Bx w w1.heap.size bt bm W5 Z5 1048576 [(false, bt, S8), (true, bm, S0)] W → ∃ o' c' w10, (Builtin.append_ #[32, 32] 32 #[.slice io fs.length ic, .slice (some ⟨W.heap.size, 0, none⟩) 1 1]).run Tryz.prog (W.alloc (.cells #[.slice uo x.length uc] 37)) = .ok (.slice o' (fs.length + 1) c') w10 ∧
                ∃ Z' P', Bx w w1.heap.size bt bm w10 Z' 1048576 [(false, bt, S8), (true, bm, S0)] w10 ∧ RowIn w w1.heap.size w10 Z' P' (.slice o' (fs.length + 1) c') (fs ++ [x])) := fun W h => by
              obtain ⟨o', c', w10, hrun, Z', P', q1, q2, _⟩ := row_push h hR (.slice uo x.length uc) rfl (HU0.out) (by omega)
              exact ⟨o', c', w10, hrun, Z', P', q1, q2⟩
            subst hz
            have K8 := Lib.hid hK8
            have G8 := Lib.hid g8
            clear hK8 g8 hS8 hcd hK' hg' hxm HU HU0 hK hg hR
            go_wp2
            go_region_held3 (fun W => W.cell? ⟨w1.heap.size, 0, none⟩ = some (.pointer (some ⟨bt, 0, none⟩)) ∧ W.cell? ⟨w1.heap.size, 1, none⟩ = some (.pointer (some ⟨bm, 0, none⟩)) ∧ W.cell? ⟨b, f + k, none⟩ = some (.slice uo x.length uc))
              (first | exact (fun h => ⟨(HB.out _ _ h).1, (HB.out _ _ h).2, HC.out _ _ h⟩) (show Bx w w1.heap.size bt bm W5 Z5 1048576 _ _ by assumption))
              (first | (go_at_call 12; refine (H4.out _ (by assumption)).mono ?_; rintro e w7 ⟨rfl, h7⟩))
            have hm7 := HB.out _ _ h7
            have hc7 := HC.out _ _ h7
            obtain ⟨o', c', w10, hrun, hrest⟩ := H5.out _ h7
            have HRest := Lib.hid hrest
            clear hrest
            go_wp2_with (at_builtin; refine wpList_append_eq rfl _ _ 32 rfl _ _ _ w10 rfl rfl hrun ?_)
            go_roundw
            case rel =>
              obtain ⟨Z', P', q1, q2⟩ := HRest.out
              refine ⟨k + 1, fs.length, S8, w10, Z', P', fs ++ [x], o', c', hlt, by go_num, by rw [List.length_append]; rfl, by go_num, G8.out, K8.out, q1, ?_, by rw [List.length_append]; simp; omega⟩
              rw [List.length_append]; exact q2
            case measure => simp [intOf]; omega
          · have e0 : (cd == 0) = false := by simpa using hz
            have hS9 : S8 = (opS S) := by rw [hS8]; exact jAdd_err (by rw [← hcd]; exact hz)
            rw [hS9] at H4
            have K8 := Lib.hid hK'
            have G8 := Lib.hid (hg'.more (Nat.le_succ k))
            have R8 := Lib.hid hR
            clear hz g8 hS8 hS9 hcd hK' hg' hxm HU HU0 hK hg hR
            go_wp2
            go_region_held3 (fun W => W.cell? ⟨w1.heap.size, 0, none⟩ = some (.pointer (some ⟨bt, 0, none⟩)) ∧ W.cell? ⟨w1.heap.size, 1, none⟩ = some (.pointer (some ⟨bm, 0, none⟩)) ∧ W.cell? ⟨b, f + k, none⟩ = some (.slice uo x.length uc))
              (first | exact (fun h => ⟨(HB.out _ _ h).1, (HB.out _ _ h).2, HC.out _ _ h⟩) (show Bx w w1.heap.size bt bm W5 Z5 1048576 _ _ by assumption))
              (first | (go_at_call 12; refine (H4.out _ (by assumption)).mono ?_; rintro e w7 ⟨rfl, h7⟩))
            go_wp2
            go_roundw
            case rel => exact ⟨k + 1, fs.length, (opS S), W5, Z5, P, fs, io, ic, hlt, by go_num, rfl, by go_num, G8.out, K8.out, h7, R8.out, by omega⟩
            case measure => simp [intOf]; omega
        · have e1 : ((k : Int) == (K : Int)) = false := by simp; omega
          have hK' := hK
          have hg' := hg
          have hcrd := Bx.below hcr (below_drew (Below.refl _ _))
          clear hkK
          obtain ⟨cd, hcd⟩ : ∃ cd, cd = (jAdd 1048576 S LGL (rawOf x)).1 := ⟨_, rfl⟩
          obtain ⟨S8, hS8⟩ : ∃ S8, S8 = (jAdd 1048576 S LGL (rawOf x)).2 := ⟨_, rfl⟩
          have g8 : Good 1048576 (k + 1) S8 := by rw [hS8]; exact hg'.jAdd _ _
          have H4 : Hid (∀ W, Bx w w1.heap.size bt bm W5 Z5 1048576 [(false, bt, S), (true, bm, S0)] W → Calls Tryz.prog 12 #[.pointer (some ⟨bt, 0, none⟩), .string ⟨#[108, 111, 103]⟩, .slice uo x.length uc] W fun r w' => r = .returned (.int .i64 cd) ∧ Bx w w1.heap.size bt bm W5 Z5 1048576 [(false, bt, S8), (true, bm, S0)] w') := fun W h => by
            have := h.jadd hg' (by omega) ⟨#[108, 111, 103]⟩ (by decide) (.slice uo x.length uc) x (HU.out W (bxBack h)) hxm
            rw [show (⟨#[108, 111, 103]⟩ : ByteArray).data.toList = LGL from rfl, ← hcd, ← hS8] at this
            exact this
          by_cases hz : cd = 0
          · have hK8 : Kept6 LGL S8 (rawLL (fs ++ [x])) sN := by
              have h1 := hK'.add (room := 1048576) (x := rawOf x) (by rw [← hcd]; exact hz)
              rw [← hS8] at h1
              have e : rawLL (fs ++ [x]) = rawLL fs ++ [rawOf x] := by simp [rawLL]
              rw [e]; exact h1
            have H5 : Hid (∀ W, Bx w w1.heap.size bt bm W5 Z5 1048576 [(false, bt, S8), (true, bm, S0)] W → ∃ o' c' w10, (Builtin.append_ #[32, 32] 32 #[.slice io fs.length ic, .slice (some ⟨W.heap.size, 0, none⟩) 1 1]).run Tryz.prog (W.alloc (.cells #[.slice uo x.length uc] 37)) = .ok (.slice o' (fs.length + 1) c') w10 ∧
                ∃ Z' P', Bx w w1.heap.size bt bm w10 Z' 1048576 [(false, bt, S8), (true, bm, S0)] w10 ∧ RowIn w w1.heap.size w10 Z' P' (.slice o' (fs.length + 1) c') (fs ++ [x])) := fun W h => by
              obtain ⟨o', c', w10, hrun, Z', P', q1, q2, _⟩ := row_push h hR (.slice uo x.length uc) rfl (HU0.out) (by omega)
              exact ⟨o', c', w10, hrun, Z', P', q1, q2⟩
            subst hz
            have K8 := Lib.hid hK8
            have G8 := Lib.hid g8
            clear hK8 g8 hS8 hcd hK' hg' hxm HU HU0 hK hg hR
            go_wp2
            go_region_held3 (fun W => W.cell? ⟨w1.heap.size, 0, none⟩ = some (.pointer (some ⟨bt, 0, none⟩)) ∧ W.cell? ⟨w1.heap.size, 1, none⟩ = some (.pointer (some ⟨bm, 0, none⟩)) ∧ W.cell? ⟨b, f + k, none⟩ = some (.slice uo x.length uc))
              (first | exact (fun h => ⟨(HB.out _ _ h).1, (HB.out _ _ h).2, HC.out _ _ h⟩) (show Bx w w1.heap.size bt bm W5 Z5 1048576 _ _ by assumption))
              (first | (go_at_call 12; refine (H4.out _ (by assumption)).mono ?_; rintro e w7 ⟨rfl, h7⟩))
            have hm7 := HB.out _ _ h7
            have hc7 := HC.out _ _ h7
            obtain ⟨o', c', w10, hrun, hrest⟩ := H5.out _ h7
            have HRest := Lib.hid hrest
            clear hrest
            go_wp2_with (at_builtin; refine wpList_append_eq rfl _ _ 32 rfl _ _ _ w10 rfl rfl hrun ?_)
            go_roundw
            case rel =>
              obtain ⟨Z', P', q1, q2⟩ := HRest.out
              refine ⟨k + 1, sN, S8, w10, Z', P', fs ++ [x], o', c', hlt, by go_num, by rw [List.length_append]; rfl, by go_num, G8.out, K8.out, q1, ?_, by rw [List.length_append]; simp; omega⟩
              rw [List.length_append]; exact q2
            case measure => simp [intOf]; omega
          · have e0 : (cd == 0) = false := by simpa using hz
            have hS9 : S8 = S := by rw [hS8]; exact jAdd_err (by rw [← hcd]; exact hz)
            rw [hS9] at H4
            have K8 := Lib.hid hK'
            have G8 := Lib.hid (hg'.more (Nat.le_succ k))
            have R8 := Lib.hid hR
            clear hz g8 hS8 hS9 hcd hK' hg' hxm HU HU0 hK hg hR
            go_wp2
            go_region_held3 (fun W => W.cell? ⟨w1.heap.size, 0, none⟩ = some (.pointer (some ⟨bt, 0, none⟩)) ∧ W.cell? ⟨w1.heap.size, 1, none⟩ = some (.pointer (some ⟨bm, 0, none⟩)) ∧ W.cell? ⟨b, f + k, none⟩ = some (.slice uo x.length uc))
              (first | exact (fun h => ⟨(HB.out _ _ h).1, (HB.out _ _ h).2, HC.out _ _ h⟩) (show Bx w w1.heap.size bt bm W5 Z5 1048576 _ _ by assumption))
              (first | (go_at_call 12; refine (H4.out _ (by assumption)).mono ?_; rintro e w7 ⟨rfl, h7⟩))
            go_wp2
            go_roundw
            case rel => exact ⟨k + 1, sN, S, W5, Z5, P, fs, io, ic, hlt, by go_num, rfl, by go_num, G8.out, K8.out, h7, R8.out, by omega⟩
            case measure => simp [intOf]; omega
      · by_cases hKx : K = xs0.length
        · have e1 : ((K : Int) == (xs0.length : Int)) = true := by simp [hKx]
          clear hKx
          have hK' : Kept6 LGL (opS S) (rawLL fs) fs.length := by
            have := hK.sync hg
            rwa [show (rawLL fs).length = fs.length by simp [rawLL]] at this
          have hg' := hg.opS
          have HS : Hid (∀ W, Bx w w1.heap.size bt bm W5 Z5 1048576 [(false, bt, S), (true, bm, S0)] W → Calls Tryz.prog 20 #[.pointer (some ⟨bt, 0, none⟩)] W fun r w' => r = .returned (.tuple #[]) ∧ Bx w w1.heap.size bt bm W5 Z5 1048576 [(false, bt, opS S), (true, bm, S0)] w') := fun W h => h.sync hg
          obtain ⟨S5, hS5⟩ : ∃ S5, S5 = opC (opS S) i2 i3 := ⟨_, rfl⟩
          obtain ⟨S6, hS6⟩ : ∃ S6, S6 = (jOpen 1048576 S5 LGL).2.2 := ⟨_, rfl⟩
          have g5 : Good 1048576 k S5 := by rw [hS5]; exact hg'.opC _ _
          have hfl : (rawLL fs).length = fs.length := by simp [rawLL]
          obtain ⟨m, z1, z2, z3, z4, z5, z6, z7, z8, z9, z10⟩ := keeps_law i2 i3 hg' hK' (by omega) hS5 hS6
          rw [hfl] at z1 z3
          have hfit : ∀ x ∈ (rawLL fs).take m, Fit x := fun x hx => hK'.fit x (List.mem_of_mem_take hx)
          have hlt : LLtxt ((rawLL fs).take m) = fs.take m := by
            have : (rawLL fs).take m = rawLL (fs.take m) := by unfold rawLL; rw [List.map_take]
            rw [this, txt_raw]
          have hml : ((rawLL fs).take m).length = m := by rw [List.length_take]; omega
          have hfm : (fs.take m).length ≤ maxLen ∧ ∀ xs ∈ fs.take m, xs.length ≤ maxLen := by
            have := lltxt_ok (ls := (rawLL fs).take m) (by rw [hml]; unfold maxLen; omega) hfit
            rwa [hlt] at this
          have CR : Hid (∀ W, Bx w w1.heap.size bt bm W5 Z5 1048576 [(false, bt, opS S), (true, bm, S0)] W → Calls Tryz.prog 22 #[.pointer (some ⟨bt, 0, none⟩), .int .i64 i2, .int .i64 i3] W fun r w' => r = .returned (.tuple #[]) ∧ Bx w w1.heap.size bt bm W5 Z5 1048576 [(false, bt, S5), (true, bm, S0)] w') := fun W h => by
            rw [hS5]; exact h.crash hg' i2 i3 (by omega)
          have O1 : Hid (∀ W, Bx w w1.heap.size bt bm W5 Z5 1048576 [(false, bt, S5), (true, bm, S0)] W → Calls Tryz.prog 15 #[.pointer (some ⟨bt, 0, none⟩), .string ⟨#[108, 111, 103]⟩] W fun r w' => ∃ o c w6 Z6, r = .returned (.tuple #[.slice o m c, .int .i64 0]) ∧ ReadsFF (fun n => ¬ Z6 n) w6 (.slice o m c) (fs.take m) ∧ Bx w w1.heap.size bt bm w6 Z6 1048576 [(false, bt, S6), (true, bm, S0)] w' ∧ RowIn w w1.heap.size w6 Z6 P (.slice io fs.length ic) fs) := fun W h => by
            refine (Bx.jopen h g5 (by omega) ⟨#[108, 111, 103]⟩ (by decide) z9).mono fun r w' k => ?_
            obtain ⟨o, c, w6, Z6, k1, k2, k3, k4, k5⟩ := k
            rw [show (⟨#[108, 111, 103]⟩ : ByteArray).data.toList = LGL from rfl] at k1 k2 k3
            rw [z4, z5, hml] at k1
            rw [z4, hlt, hml] at k2
            rw [← hS6] at k3
            exact ⟨o, c, w6, Z6, k1, k2, k3, hR.rebox k4 k5⟩
          have R1 : Hid (∀ w6 Z6 W o c, Bx w w1.heap.size bt bm w6 Z6 1048576 [(false, bt, S6), (true, bm, S0)] W → RowIn w w1.heap.size w6 Z6 P (.slice io fs.length ic) fs → ReadsFF (fun n => ¬ Z6 n) w6 (.slice o m c) (fs.take m) → Calls Tryz.prog 26 #[.pointer (some ⟨bt, 0, none⟩), .string ⟨#[108, 111, 103]⟩] W fun r w' => ∃ o2 c2 w7 Z7, r = .returned (.tuple #[.slice o2 m c2, .bool true]) ∧ Bx w w1.heap.size bt bm w7 Z7 1048576 [(false, bt, S6), (true, bm, S0)] w' ∧ ReadsLL w' w'.heap.size (.slice o m c) (fs.take m) ∧ ReadsLL w' w'.heap.size (.slice o2 m c2) (fs.take m) ∧ ReadsLL w' w'.heap.size (.slice io m ic) (fs.take m)) := fun w6 Z6 W o c h hr6 hx => by
            refine (Bx.jread h ⟨#[108, 111, 103]⟩ (by decide) z10).mono fun r w' k => ?_
            obtain ⟨o2, c2, w7, Z7, k1, k2, k3, k4, k5⟩ := k
            rw [show (⟨#[108, 111, 103]⟩ : ByteArray).data.toList = LGL from rfl] at k1 k2
            rw [z7, z8, hml] at k1
            rw [z7, hlt, hml] at k2
            exact ⟨o2, c2, w7, Z7, k1, k3, ReadsFF.reads (Bx.reads k3 (ReadsFF.rebox hx k4 k5)), ReadsFF.reads (Bx.reads k3 k2), (hr6.rebox k4 k5).reads k3 rfl m z1⟩
          have PN : Hid (∀ w7 Z7 W, Bx w w1.heap.size bt bm w7 Z7 1048576 [(false, bt, S6), (true, bm, S0)] W → Calls Tryz.prog 30 #[.pointer (some ⟨bt, 0, none⟩)] W fun r w' => r = .returned (.int .i64 0) ∧ W = w') := fun w7 Z7 W h => by
            have := h.pending
            rw [z6] at this
            exact this
          have hiom : (io = none ∧ ic = 0 ∧ fs.length = 0) ∨ ∃ g, io = some ⟨g, 0, none⟩ := by
            obtain ⟨⟨vs, q1, q2⟩, _, _⟩ := hR
            rcases q1.1.2 with ⟨hv, h0'⟩ | ⟨g, cap, cur, hv, _⟩
            · simp only [Value.slice.injEq] at hv
              exact .inl ⟨hv.1, hv.2.2, hv.2.1⟩
            · simp only [Value.slice.injEq] at hv
              exact .inr ⟨g, hv.1⟩
          have hmi : m ≤ ic := by
            obtain ⟨⟨vs, q1, q2⟩, _, _⟩ := hR
            obtain ⟨o', c', hv', q3, _⟩ := q1.shape (fun _ => rfl)
            simp only [Value.slice.injEq] at hv'
            omega
          have d1 : decide ((m : Int) < (fs.length : Int)) = false := by simp; omega
          have d2 : decide ((fs.length : Int) < (m : Int)) = false := by simp; omega
          have hfin : Hid (decide (min (fs.length : Int) (wrap64 ((fs.length : Int) + max 0 i2)) ≤ (m : Int)) = true) := by
            show _ = _
            rw [decide_eq_true_iff]
            have hsn : fs.length ≤ 20 := by omega
            by_cases hov : ((fs.length : Int) + max 0 i2) ≤ 9223372036854775807
            · rw [IntWalk.wrap64_in _ (by omega)]; exact z3
            · unfold wrap64; omega
          clear hlt hml hfit hfl z4 z5 z6 z7 z8 z9 z10 g5 hS5 hS6 hK hg hK' hg' hR
          rcases hiom with ⟨rfl, rfl, h0f⟩ | ⟨gr, rfl⟩
          · obtain rfl : m = 0 := by omega
            obtain rfl : fs = [] := List.eq_nil_of_length_eq_zero h0f
            simp only [List.length_nil, Int.natCast_zero, List.take_nil] at O1 R1 d1 d2 hfm ⊢
            clear hfin z2
            go_wp2_with (first
              | (go_at_call 20; with_reducible refine (HS.out _ hcr).mono ?_; rintro e w4 ⟨rfl, h4⟩; have hm4 := bxAt h4)
              | (go_at_call 22; with_reducible refine (CR.out _ h4).mono ?_; rintro e w5 ⟨rfl, h5⟩; have hm5 := bxAt h5)
              | (go_at_call 15; with_reducible refine (O1.out _ h5).mono ?_; rintro e w8 ⟨ox, cx, w6, Z6, rfl, hx, h6, hr6⟩; have hm6 := bxAt h6)
              | (go_at_call 26; refine (R1.out _ _ _ _ _ h6 hr6 hx).mono ?_; rintro e w9 ⟨oy, cy, w7, Z7, rfl, h9, rx, ry, ri⟩; have hm9 := bxAt h9; have bb := bxBack h9; have b0 := Below.refl w9.heap.size w9; have K1 := same_at rx ry hfm.1 hfm.2 (decide_eq_true rfl); have K2 := same_at rx ri hfm.1 hfm.2 (decide_eq_true rfl); clear rx ry ri hx hr6)
              | (go_at_call 17; with_reducible refine (K1 _ b0).mono ?_; rintro e w10 ⟨rfl, hb10⟩)
              | (go_at_call 17; with_reducible refine (K2 _ hb10).mono ?_; rintro e w11 ⟨rfl, hb11⟩; have hm11 := bxAt (Bx.below h9 hb11))
              | (go_at_call 30; have h11 := Bx.below h9 hb11; with_reducible refine (PN.out _ _ _ h11).mono ?_; rintro e w12 ⟨rfl, rfl⟩))
            go_ret
            exact ⟨ret_bool (by simp; omega), bb.trans (hb11.mono bb.size)⟩
          · go_wp2_with (first
              | (go_at_call 20; with_reducible refine (HS.out _ hcr).mono ?_; rintro e w4 ⟨rfl, h4⟩; have hm4 := bxAt h4)
              | (go_at_call 22; with_reducible refine (CR.out _ h4).mono ?_; rintro e w5 ⟨rfl, h5⟩; have hm5 := bxAt h5)
              | (go_at_call 15; with_reducible refine (O1.out _ h5).mono ?_; rintro e w8 ⟨ox, cx, w6, Z6, rfl, hx, h6, hr6⟩; have hm6 := bxAt h6)
              | (go_at_call 26; refine (R1.out _ _ _ _ _ h6 hr6 hx).mono ?_; rintro e w9 ⟨oy, cy, w7, Z7, rfl, h9, rx, ry, ri⟩; have hm9 := bxAt h9; have bb := bxBack h9; have b0 := Below.refl w9.heap.size w9; have K1 := same_at rx ry hfm.1 hfm.2 (decide_eq_true rfl); have K2 := same_at rx ri hfm.1 hfm.2 (decide_eq_true rfl); clear rx ry ri hx hr6)
              | (go_at_call 17; with_reducible refine (K1 _ b0).mono ?_; rintro e w10 ⟨rfl, hb10⟩)
              | (go_at_call 17; with_reducible refine (K2 _ hb10).mono ?_; rintro e w11 ⟨rfl, hb11⟩; have hm11 := bxAt (Bx.below h9 hb11))
              | (go_at_call 30; have h11 := Bx.below h9 hb11; with_reducible refine (PN.out _ _ _ h11).mono ?_; rintro e w12 ⟨rfl, rfl⟩))
            go_ret
            exact ⟨ret_bool hfin.out, bb.trans (hb11.mono bb.size)⟩

        · have e1 : ((K : Int) == (xs0.length : Int)) = false := by simp; omega
          clear hKx
          have hK' := hK
          have hg' := hg
          obtain ⟨S5, hS5⟩ : ∃ S5, S5 = opC (S) i2 i3 := ⟨_, rfl⟩
          obtain ⟨S6, hS6⟩ : ∃ S6, S6 = (jOpen 1048576 S5 LGL).2.2 := ⟨_, rfl⟩
          have g5 : Good 1048576 k S5 := by rw [hS5]; exact hg'.opC _ _
          have hfl : (rawLL fs).length = fs.length := by simp [rawLL]
          obtain ⟨m, z1, z2, z3, z4, z5, z6, z7, z8, z9, z10⟩ := keeps_law i2 i3 hg' hK' (by omega) hS5 hS6
          rw [hfl] at z1 z3
          have hfit : ∀ x ∈ (rawLL fs).take m, Fit x := fun x hx => hK'.fit x (List.mem_of_mem_take hx)
          have hlt : LLtxt ((rawLL fs).take m) = fs.take m := by
            have : (rawLL fs).take m = rawLL (fs.take m) := by unfold rawLL; rw [List.map_take]
            rw [this, txt_raw]
          have hml : ((rawLL fs).take m).length = m := by rw [List.length_take]; omega
          have hfm : (fs.take m).length ≤ maxLen ∧ ∀ xs ∈ fs.take m, xs.length ≤ maxLen := by
            have := lltxt_ok (ls := (rawLL fs).take m) (by rw [hml]; unfold maxLen; omega) hfit
            rwa [hlt] at this
          have CR : Hid (∀ W, Bx w w1.heap.size bt bm W5 Z5 1048576 [(false, bt, S), (true, bm, S0)] W → Calls Tryz.prog 22 #[.pointer (some ⟨bt, 0, none⟩), .int .i64 i2, .int .i64 i3] W fun r w' => r = .returned (.tuple #[]) ∧ Bx w w1.heap.size bt bm W5 Z5 1048576 [(false, bt, S5), (true, bm, S0)] w') := fun W h => by
            rw [hS5]; exact h.crash hg' i2 i3 (by omega)
          have O1 : Hid (∀ W, Bx w w1.heap.size bt bm W5 Z5 1048576 [(false, bt, S5), (true, bm, S0)] W → Calls Tryz.prog 15 #[.pointer (some ⟨bt, 0, none⟩), .string ⟨#[108, 111, 103]⟩] W fun r w' => ∃ o c w6 Z6, r = .returned (.tuple #[.slice o m c, .int .i64 0]) ∧ ReadsFF (fun n => ¬ Z6 n) w6 (.slice o m c) (fs.take m) ∧ Bx w w1.heap.size bt bm w6 Z6 1048576 [(false, bt, S6), (true, bm, S0)] w' ∧ RowIn w w1.heap.size w6 Z6 P (.slice io fs.length ic) fs) := fun W h => by
            refine (Bx.jopen h g5 (by omega) ⟨#[108, 111, 103]⟩ (by decide) z9).mono fun r w' k => ?_
            obtain ⟨o, c, w6, Z6, k1, k2, k3, k4, k5⟩ := k
            rw [show (⟨#[108, 111, 103]⟩ : ByteArray).data.toList = LGL from rfl] at k1 k2 k3
            rw [z4, z5, hml] at k1
            rw [z4, hlt, hml] at k2
            rw [← hS6] at k3
            exact ⟨o, c, w6, Z6, k1, k2, k3, hR.rebox k4 k5⟩
          have R1 : Hid (∀ w6 Z6 W o c, Bx w w1.heap.size bt bm w6 Z6 1048576 [(false, bt, S6), (true, bm, S0)] W → RowIn w w1.heap.size w6 Z6 P (.slice io fs.length ic) fs → ReadsFF (fun n => ¬ Z6 n) w6 (.slice o m c) (fs.take m) → Calls Tryz.prog 26 #[.pointer (some ⟨bt, 0, none⟩), .string ⟨#[108, 111, 103]⟩] W fun r w' => ∃ o2 c2 w7 Z7, r = .returned (.tuple #[.slice o2 m c2, .bool true]) ∧ Bx w w1.heap.size bt bm w7 Z7 1048576 [(false, bt, S6), (true, bm, S0)] w' ∧ ReadsLL w' w'.heap.size (.slice o m c) (fs.take m) ∧ ReadsLL w' w'.heap.size (.slice o2 m c2) (fs.take m) ∧ ReadsLL w' w'.heap.size (.slice io m ic) (fs.take m)) := fun w6 Z6 W o c h hr6 hx => by
            refine (Bx.jread h ⟨#[108, 111, 103]⟩ (by decide) z10).mono fun r w' k => ?_
            obtain ⟨o2, c2, w7, Z7, k1, k2, k3, k4, k5⟩ := k
            rw [show (⟨#[108, 111, 103]⟩ : ByteArray).data.toList = LGL from rfl] at k1 k2
            rw [z7, z8, hml] at k1
            rw [z7, hlt, hml] at k2
            exact ⟨o2, c2, w7, Z7, k1, k3, ReadsFF.reads (Bx.reads k3 (ReadsFF.rebox hx k4 k5)), ReadsFF.reads (Bx.reads k3 k2), (hr6.rebox k4 k5).reads k3 rfl m z1⟩
          have PN : Hid (∀ w7 Z7 W, Bx w w1.heap.size bt bm w7 Z7 1048576 [(false, bt, S6), (true, bm, S0)] W → Calls Tryz.prog 30 #[.pointer (some ⟨bt, 0, none⟩)] W fun r w' => r = .returned (.int .i64 0) ∧ W = w') := fun w7 Z7 W h => by
            have := h.pending
            rw [z6] at this
            exact this
          have hiom : (io = none ∧ ic = 0 ∧ fs.length = 0) ∨ ∃ g, io = some ⟨g, 0, none⟩ := by
            obtain ⟨⟨vs, q1, q2⟩, _, _⟩ := hR
            rcases q1.1.2 with ⟨hv, h0'⟩ | ⟨g, cap, cur, hv, _⟩
            · simp only [Value.slice.injEq] at hv
              exact .inl ⟨hv.1, hv.2.2, hv.2.1⟩
            · simp only [Value.slice.injEq] at hv
              exact .inr ⟨g, hv.1⟩
          have hmi : m ≤ ic := by
            obtain ⟨⟨vs, q1, q2⟩, _, _⟩ := hR
            obtain ⟨o', c', hv', q3, _⟩ := q1.shape (fun _ => rfl)
            simp only [Value.slice.injEq] at hv'
            omega
          have d1 : decide ((m : Int) < (sN : Int)) = false := by simp; omega
          have d2 : decide ((fs.length : Int) < (m : Int)) = false := by simp; omega
          have hfin : Hid (decide (min (fs.length : Int) (wrap64 ((sN : Int) + max 0 i2)) ≤ (m : Int)) = true) := by
            show _ = _
            rw [decide_eq_true_iff]
            have hsn : sN ≤ 20 := by omega
            by_cases hov : ((sN : Int) + max 0 i2) ≤ 9223372036854775807
            · rw [IntWalk.wrap64_in _ (by omega)]; exact z3
            · unfold wrap64; omega
          clear hlt hml hfit hfl z4 z5 z6 z7 z8 z9 z10 g5 hS5 hS6 hK hg hK' hg' hR
          rcases hiom with ⟨rfl, rfl, h0f⟩ | ⟨gr, rfl⟩
          · obtain rfl : m = 0 := by omega
            obtain rfl : sN = 0 := by omega
            obtain rfl : fs = [] := List.eq_nil_of_length_eq_zero h0f
            simp only [List.length_nil, Int.natCast_zero, List.take_nil] at O1 R1 d1 d2 hfm ⊢
            clear hfin z2
            go_wp2_with (first
              | (go_at_call 22; with_reducible refine (CR.out _ hcr).mono ?_; rintro e w5 ⟨rfl, h5⟩; have hm5 := bxAt h5)
              | (go_at_call 15; with_reducible refine (O1.out _ h5).mono ?_; rintro e w8 ⟨ox, cx, w6, Z6, rfl, hx, h6, hr6⟩; have hm6 := bxAt h6)
              | (go_at_call 26; refine (R1.out _ _ _ _ _ h6 hr6 hx).mono ?_; rintro e w9 ⟨oy, cy, w7, Z7, rfl, h9, rx, ry, ri⟩; have hm9 := bxAt h9; have bb := bxBack h9; have b0 := Below.refl w9.heap.size w9; have K1 := same_at rx ry hfm.1 hfm.2 (decide_eq_true rfl); have K2 := same_at rx ri hfm.1 hfm.2 (decide_eq_true rfl); clear rx ry ri hx hr6)
              | (go_at_call 17; with_reducible refine (K1 _ b0).mono ?_; rintro e w10 ⟨rfl, hb10⟩)
              | (go_at_call 17; with_reducible refine (K2 _ hb10).mono ?_; rintro e w11 ⟨rfl, hb11⟩; have hm11 := bxAt (Bx.below h9 hb11))
              | (go_at_call 30; have h11 := Bx.below h9 hb11; with_reducible refine (PN.out _ _ _ h11).mono ?_; rintro e w12 ⟨rfl, rfl⟩))
            go_ret
            exact ⟨ret_bool (by simp; omega), bb.trans (hb11.mono bb.size)⟩
          · go_wp2_with (first
              | (go_at_call 22; with_reducible refine (CR.out _ hcr).mono ?_; rintro e w5 ⟨rfl, h5⟩; have hm5 := bxAt h5)
              | (go_at_call 15; with_reducible refine (O1.out _ h5).mono ?_; rintro e w8 ⟨ox, cx, w6, Z6, rfl, hx, h6, hr6⟩; have hm6 := bxAt h6)
              | (go_at_call 26; refine (R1.out _ _ _ _ _ h6 hr6 hx).mono ?_; rintro e w9 ⟨oy, cy, w7, Z7, rfl, h9, rx, ry, ri⟩; have hm9 := bxAt h9; have bb := bxBack h9; have b0 := Below.refl w9.heap.size w9; have K1 := same_at rx ry hfm.1 hfm.2 (decide_eq_true rfl); have K2 := same_at rx ri hfm.1 hfm.2 (decide_eq_true rfl); clear rx ry ri hx hr6)
              | (go_at_call 17; with_reducible refine (K1 _ b0).mono ?_; rintro e w10 ⟨rfl, hb10⟩)
              | (go_at_call 17; with_reducible refine (K2 _ hb10).mono ?_; rintro e w11 ⟨rfl, hb11⟩; have hm11 := bxAt (Bx.below h9 hb11))
              | (go_at_call 30; have h11 := Bx.below h9 hb11; with_reducible refine (PN.out _ _ _ h11).mono ?_; rintro e w12 ⟨rfl, rfl⟩))
            go_ret
            exact ⟨ret_bool hfin.out, bb.trans (hb11.mono bb.size)⟩


end Go.Proofs.YtgnappifekacpaaGreatDoor
