/-
  What JournalAgain answers: true.
-/
import Derived.Deep.RegionHeld3
import Derived.Deep.QuietTactic
import Derived.BigQuiet
import Derived.Test.YtgnappifekacpaaGreatDoorJAgain
namespace Go.Proofs.YtgnappifekacpaaGreatDoor
open Go.RowKit Go.Shelf Go.Maps

set_option maxRecDepth 100000 in
set_option maxHeartbeats 16000000 in
theorem journalAgain_walk (v0 : Value) (xs0 : List (List ByteArray)) (hn0 : xs0.length ≤ maxLen) (hz0 : ∀ l ∈ xs0, l.length ≤ maxLen ∧ ∀ x ∈ l, x.size ≤ maxLen) (s1 : ByteArray) (hs1 : s1.size ≤ maxLen) (v2 : Value) (xs2 : List ByteArray) (hn2 : xs2.length ≤ maxLen) (hz2 : ∀ x ∈ xs2, x.size ≤ maxLen) (w : World) (hr0 : ReadsLL w w.heap.size v0 xs0) (hr2 : ReadsO w w.heap.size v2 xs2) :
    Calls Tryz.prog 7 #[v0, .string s1, v2] w (LawPost w) := by
  have HSh := Lib.hid (shown_at w)
  have HT0 := Lib.hid (tiny_at hr0 hn0 hz0)
  have HBg := Lib.hid (begun_at 1048576 (by omega) (by omega) w)
  have hb0 : Below w.heap.size w w := Below.refl _ _
  obtain ⟨o2, c2, rfl, _⟩ : ∃ o c, v2 = .slice o xs2.length c ∧ True := by
    obtain ⟨o, c, h, _⟩ := hr2
    exact ⟨o, c, h, trivial⟩
  have HT2 : Hid (∀ W, Below w.heap.size w W → Calls Tryz.prog 29 #[.slice (some ⟨W.heap.size, 0, none⟩) 1 1] (W.alloc (.cells #[.slice o2 xs2.length c2] 37)) fun e w' => e = .returned (.bool (tinyB [xs2])) ∧ Below w.heap.size w w') := fun W hb => by
    have h1 : Below W.heap.size W (W.alloc (.cells #[.slice o2 xs2.length c2] 37)) := (Below.refl _ _).alloc (Nat.le_refl _) _
    refine (tiny_any (.slice (some ⟨W.heap.size, 0, none⟩) 1 1) [xs2] _ _ (built_one (hr2.below hb hb.size)) (by unfold maxLen; simp) (by intro l hl; simp at hl; rw [hl]; exact ⟨hn2, hz2⟩)).mono fun _ _ k => ⟨k.1, ?_⟩
    rw [← k.2]
    exact hb.trans (h1.mono hb.size)
  unfold maxLen at hs1
  cases ht0 : tinyB xs0 with
  | false =>
    rw [ht0] at HT0
    clear hr0 hr2 hn0 hz0 hn2 hz2 ht0
    go_enter Tryz.func7, Tryz.ntmps7
    go_wp2_with (first
      | (go_at_call 8; refine (HSh.out _ hb0).mono ?_; rintro e w2 ⟨rfl, hb2⟩)
      | (go_at_call 29; with_reducible refine (HT0.out _ hb2).mono ?_; rintro e w3 ⟨rfl, rfl⟩)
      | (go_at_call 29; refine (HT2.out _ hb2).mono ?_; rintro e w4 ⟨rfl, hb4⟩)
      | (go_at_call 10; refine (HBg.out _ hb4).mono ?_; rintro e w1 ⟨bt, bm, rfl, h0⟩))
    go_ret
    exact ⟨rfl, boxBack h0⟩
  | true =>
    rw [ht0] at HT0
    cases ht2 : tinyB [xs2] with
    | false =>
      rw [ht2] at HT2
      clear hr0 hr2 hn0 hz0 hn2 hz2 ht0 ht2
      go_enter Tryz.func7, Tryz.ntmps7
      go_wp2_with (first
        | (go_at_call 8; refine (HSh.out _ hb0).mono ?_; rintro e w2 ⟨rfl, hb2⟩)
        | (go_at_call 29; with_reducible refine (HT0.out _ hb2).mono ?_; rintro e w3 ⟨rfl, rfl⟩)
        | (go_at_call 29; refine (HT2.out _ hb2).mono ?_; rintro e w4 ⟨rfl, hb4⟩)
        | (go_at_call 10; refine (HBg.out _ hb4).mono ?_; rintro e w1 ⟨bt, bm, rfl, h0⟩))
      go_ret
      exact ⟨rfl, boxBack h0⟩
    | true =>
      rw [ht2] at HT2
      by_cases hlong : 200 < s1.size
      · have d1 : decide (200 < (s1.size : Int)) = true := by simp; omega
        clear hr0 hr2 hn0 hz0 hn2 hz2 ht0 ht2
        go_enter Tryz.func7, Tryz.ntmps7
        go_wp2_with (first
          | (go_at_call 8; refine (HSh.out _ hb0).mono ?_; rintro e w2 ⟨rfl, hb2⟩)
          | (go_at_call 29; with_reducible refine (HT0.out _ hb2).mono ?_; rintro e w3 ⟨rfl, rfl⟩)
          | (go_at_call 29; refine (HT2.out _ hb2).mono ?_; rintro e w4 ⟨rfl, hb4⟩)
          | (go_at_call 10; refine (HBg.out _ hb4).mono ?_; rintro e w1 ⟨bt, bm, rfl, h0⟩))
        go_ret
        exact ⟨rfl, boxBack h0⟩
      · have d1 : decide (200 < (s1.size : Int)) = false := by simp; omega
        obtain ⟨q0, q1, q2, q3⟩ := tiny_okb ht0
        have hxl : xs0.length ≤ 20 := (tiny_all ht0).1
        have hx2 : xs2.length ≤ maxLen ∧ ∀ x ∈ xs2, x.size ≤ 1000000 := (tiny_okb ht2).2.1 xs2 (by simp)
        clear hn0 hz0 hn2 hz2 ht0 ht2
        have HR1 := Lib.hid hr0
        have HO : Hid (∀ W, Below w.heap.size w W → ReadsO W W.heap.size (.slice o2 xs2.length c2) xs2) := fun W hb => hr2.below hb hb.size
        obtain ⟨o0, c0, rfl, _⟩ := hr0
        clear hr2
        go_enter Tryz.func7, Tryz.ntmps7
        go_wp2_with (first
          | (go_at_call 8; refine (HSh.out _ hb0).mono ?_; rintro e w2 ⟨rfl, hb2⟩)
          | (go_at_call 29; with_reducible refine (HT0.out _ hb2).mono ?_; rintro e w3 ⟨rfl, rfl⟩)
          | (go_at_call 29; refine (HT2.out _ hb2).mono ?_; rintro e w4 ⟨rfl, hb4⟩)
          | (go_at_call 10; refine (HBg.out _ hb4).mono ?_; rintro e w1 ⟨bt, bm, rfl, h0'⟩; have h0 := Box.bx h0'; have hm0 := bxAt h0; clear h0'))
        clear HSh HT0 HT2 HBg hb2 hb4
        obtain ⟨S0, hS0⟩ : ∃ S0 : St, S0 = (0, [], [], []) := ⟨_, rfl⟩
        rw [← hS0] at h0
        have g0 : Good 1048576 0 S0 := by rw [hS0]; exact Good.new (by omega) (by omega)
        have L0 : Logs LGL S0.now [] := by rw [hS0]; exact Logs.nil LGL
        go_loopw [12] (fun iv wr => ∃ (k : Nat) (S : St) (s : BS), k ≤ xs0.length ∧ iv = .int .i64 k ∧ Good 1048576 k S ∧ Logs LGL S.now s ∧ s.length ≤ 13000 * k ∧ Bx w w1.heap.size bt bm (pairW w1 bt bm) (ZB w w1) 1048576 [(false, bt, S), (true, bm, S0)] wr) (fun iv _ => xs0.length - (intOf iv).toNat)
        case atStart => exact ⟨0, S0, [], Nat.zero_le _, rfl, g0, L0, by simp, h0⟩
        case round =>
          obtain ⟨k, S, s, hk, rfl, hg, hL, hsk, hcr⟩ := hrel
          have hm1 := bxAt hcr
          by_cases hlt : k < xs0.length
          · obtain ⟨o2', c2', hv2, hx2'⟩ := HR1.out
            cases hv2
            obtain ⟨b, f, u, rfl, hbw, hkc, hcell, uo, uc, rfl, hux⟩ := hx2' k _ (List.getElem?_eq_getElem hlt)
            have hkc' : k < c0 := by omega
            have hxm := q1 xs0[k] (List.getElem_mem hlt)
            have HU : Hid (∀ W, Below w.heap.size w W → ReadsO W W.heap.size (.slice uo xs0[k].length uc) xs0[k]) := fun W hb => (show ReadsO w w.heap.size (.slice uo xs0[k].length uc) xs0[k] from ⟨uo, uc, rfl, hux⟩).below hb hb.size
            have HC : Hid (∀ l W, Bx w w1.heap.size bt bm (pairW w1 bt bm) (ZB w w1) 1048576 l W → W.cell? ⟨b, f + k, none⟩ = some (.slice uo xs0[k].length uc)) := fun l W h => ((bxBack h).cell (p := ⟨b, f + k, none⟩) hbw).trans hcell
            have HB : Hid (∀ l W, Bx w w1.heap.size bt bm (pairW w1 bt bm) (ZB w w1) 1048576 l W → W.cell? ⟨w1.heap.size, 0, none⟩ = some (.pointer (some ⟨bt, 0, none⟩)) ∧ W.cell? ⟨w1.heap.size, 1, none⟩ = some (.pointer (some ⟨bm, 0, none⟩))) := fun l W h => bxAt h
            clear hx2' hux hcell
            generalize xs0[k] = x at *
            obtain ⟨cd, hcd⟩ : ∃ cd, cd = (jAdd 1048576 S LGL (rawOf x)).1 := ⟨_, rfl⟩
            obtain ⟨S8, hS8⟩ : ∃ S8, S8 = (jAdd 1048576 S LGL (rawOf x)).2 := ⟨_, rfl⟩
            have g8 : Good 1048576 (k + 1) S8 := by rw [hS8]; exact hg.jAdd _ _
            obtain ⟨s8, hs8, hs9⟩ := jAdd_logs (room := 1048576) hL (rawOf x)
            rw [← hS8] at hs8
            have H4 : Hid (∀ W, Bx w w1.heap.size bt bm (pairW w1 bt bm) (ZB w w1) 1048576 [(false, bt, S), (true, bm, S0)] W → Calls Tryz.prog 12 #[.pointer (some ⟨bt, 0, none⟩), .string ⟨#[108, 111, 103]⟩, .slice uo x.length uc] W fun r w' => r = .returned (.int .i64 cd) ∧ Bx w w1.heap.size bt bm (pairW w1 bt bm) (ZB w w1) 1048576 [(false, bt, S8), (true, bm, S0)] w') := fun W h => by
              have := h.jadd hg (by omega) ⟨#[108, 111, 103]⟩ (by decide) (.slice uo x.length uc) x (HU.out W (bxBack h)) hxm
              rw [show (⟨#[108, 111, 103]⟩ : ByteArray).data.toList = LGL from rfl, ← hcd, ← hS8] at this
              exact this
            have hcrd := Bx.below hcr (below_drew (Below.refl _ _))
            have G8 := Lib.hid g8
            have L8 := Lib.hid hs8
            have hs10 : s8.length ≤ 13000 * (k + 1) := by omega
            clear g8 hs8 hs9 hS8 hcd hL hg hxm HU
            go_wp2
            go_region_held3 (fun W => W.cell? ⟨w1.heap.size, 0, none⟩ = some (.pointer (some ⟨bt, 0, none⟩)) ∧ W.cell? ⟨w1.heap.size, 1, none⟩ = some (.pointer (some ⟨bm, 0, none⟩)) ∧ W.cell? ⟨b, f + k, none⟩ = some (.slice uo x.length uc))
              (first | exact (fun h => ⟨(HB.out _ _ h).1, (HB.out _ _ h).2, HC.out _ _ h⟩) (show Bx w w1.heap.size bt bm (pairW w1 bt bm) (ZB w w1) 1048576 _ _ by assumption))
              (first | (go_at_call 12; refine (H4.out _ (by assumption)).mono ?_; rintro e w7 ⟨rfl, h7⟩))
            go_wp2
            go_roundw
            case rel => exact ⟨k + 1, S8, s8, hlt, by go_num, G8.out, L8.out, hs10, h7⟩
            case measure => simp [intOf]; omega
          · have hs260 : s.length ≤ 260000 := by omega
            obtain ⟨S1, hS1⟩ : ∃ S1, S1 = (opA 1048576 S LGL s1.data.toList).2 := ⟨_, rfl⟩
            have g1 : Good 1048576 (k + 1) S1 := by rw [hS1]; exact hg.opA _ _
            obtain ⟨s9, hL1, hs9⟩ := opA_logs (room := 1048576) hL s1.data.toList
            rw [← hS1] at hL1
            have hsz : s1.data.toList.length = s1.size := size_list s1
            obtain ⟨ls, hls⟩ : ∃ ls, ls = listsOf s9 := ⟨_, rfl⟩
            obtain ⟨S2, hS2⟩ : ∃ S2, S2 = (jOpen 1048576 S1 LGL).2.2 := ⟨_, rfl⟩
            obtain ⟨S3, hS3⟩ : ∃ S3, S3 = (jOpen 1048576 S2 LGL).2.2 := ⟨_, rfl⟩
            obtain ⟨S4, hS4⟩ : ∃ S4, S4 = (jAnew 1048576 S3 LGL ls).2 := ⟨_, rfl⟩
            have g2 : Good 1048576 (k + 5) S2 := by rw [hS2]; exact g1.jOpen _
            have g3 : Good 1048576 (k + 9) S3 := by rw [hS3]; exact g2.jOpen _
            have g4 : Good 1048576 (k + 12) S4 := by rw [hS4]; exact g3.jAnew _ _
            obtain ⟨z1, z2, z3, z4, z5, z6, z7, z8, z9, z10, z11, z12, z13, z14⟩ := again_law g1 hL1 (by omega) hls hS2 hS3 hS4
            have AP : Hid (∀ W, Bx w w1.heap.size bt bm (pairW w1 bt bm) (ZB w w1) 1048576 [(false, bt, S), (true, bm, S0)] W → Calls Tryz.prog 24 #[.pointer (some ⟨bt, 0, none⟩), .string ⟨#[108, 111, 103]⟩, .string s1] W fun r w' => (∃ q, r = .returned (.int .i64 q)) ∧ Bx w w1.heap.size bt bm (pairW w1 bt bm) (ZB w w1) 1048576 [(false, bt, S1), (true, bm, S0)] w') := fun W h => by
              have := h.append hg (by omega) ⟨#[108, 111, 103]⟩ s1 (by decide) (by omega)
              rw [show (⟨#[108, 111, 103]⟩ : ByteArray).data.toList = LGL from rfl, ← hS1] at this
              exact this.mono fun _ _ k => ⟨⟨_, k.1⟩, k.2⟩
            obtain ⟨X, hX⟩ : ∃ X, X = LLtxt ls := ⟨_, rfl⟩
            have hXl : X.length = ls.length := by rw [hX]; simp [LLtxt]
            have hXr : rawLL X = ls := by rw [hX, raw_txt]
            have hXok : X.length ≤ maxLen ∧ ∀ xs ∈ X, xs.length ≤ maxLen ∧ ∀ x ∈ xs, x.size ≤ 1000000 := by
              rw [hXl, hX]
              exact ⟨by unfold maxLen; omega, fits_ok z11⟩
            have O1 : Hid (∀ W, Bx w w1.heap.size bt bm (pairW w1 bt bm) (ZB w w1) 1048576 [(false, bt, S1), (true, bm, S0)] W → Calls Tryz.prog 15 #[.pointer (some ⟨bt, 0, none⟩), .string ⟨#[108, 111, 103]⟩] W fun r w' => ∃ o c W5 Z5, r = .returned (.tuple #[.slice o X.length c, .int .i64 0]) ∧ ReadsFF (fun n => ¬ Z5 n) W5 (.slice o X.length c) X ∧ Bx w w1.heap.size bt bm W5 Z5 1048576 [(false, bt, S2), (true, bm, S0)] w') := fun W h => by
              refine (Bx.jopen h g1 (by omega) ⟨#[108, 111, 103]⟩ (by decide) z8).mono fun r w' k => ?_
              obtain ⟨o, c, W5, Z5, k1, k2, k3, k4, k5⟩ := k
              rw [show (⟨#[108, 111, 103]⟩ : ByteArray).data.toList = LGL from rfl] at k1 k2 k3
              rw [z1, z2, ← hXl] at k1
              rw [z1, ← hX, ← hXl] at k2
              rw [← hS2] at k3
              exact ⟨o, c, W5, Z5, k1, k2, k3⟩
            have O2 : Hid (∀ W5 Z5 W o c, Bx w w1.heap.size bt bm W5 Z5 1048576 [(false, bt, S2), (true, bm, S0)] W → ReadsFF (fun n => ¬ Z5 n) W5 (.slice o X.length c) X → Calls Tryz.prog 15 #[.pointer (some ⟨bt, 0, none⟩), .string ⟨#[108, 111, 103]⟩] W fun r w' => ∃ o3 c3 W6 Z6, r = .returned (.tuple #[.slice o3 X.length c3, .int .i64 0]) ∧ ReadsFF (fun n => ¬ Z6 n) W6 (.slice o3 X.length c3) X ∧ ReadsFF (fun n => ¬ Z6 n) W6 (.slice o X.length c) X ∧ Bx w w1.heap.size bt bm W6 Z6 1048576 [(false, bt, S3), (true, bm, S0)] w') := fun W5 Z5 W o c h hx => by
              refine (Bx.jopen h g2 (by omega) ⟨#[108, 111, 103]⟩ (by decide) z9).mono fun r w' k => ?_
              obtain ⟨o3, c3, W6, Z6, k1, k2, k3, k4, k5⟩ := k
              rw [show (⟨#[108, 111, 103]⟩ : ByteArray).data.toList = LGL from rfl] at k1 k2 k3
              rw [z3, z4, ← hXl] at k1
              rw [z3, ← hX, ← hXl] at k2
              rw [← hS3] at k3
              exact ⟨o3, c3, W6, Z6, k1, k2, ReadsFF.rebox hx k4 k5, k3⟩
            obtain ⟨T, hT⟩ : ∃ T, T = txt (linesOfAll ls) := ⟨_, rfl⟩
            have R1 : Hid (∀ W5 Z5 W, Bx w w1.heap.size bt bm W5 Z5 1048576 [(false, bt, S3), (true, bm, S0)] W → Calls Tryz.prog 32 #[.pointer (some ⟨bt, 0, none⟩), .string ⟨#[108, 111, 103]⟩] W fun r w' => (∃ q, r = .returned (.tuple #[.string T, .int .i64 q])) ∧ Bx w w1.heap.size bt bm W5 Z5 1048576 [(false, bt, S3), (true, bm, S0)] w') := fun W5 Z5 W h => by
              have := h.readB ⟨#[108, 111, 103]⟩ (by decide)
              rw [show (⟨#[108, 111, 103]⟩ : ByteArray).data.toList = LGL from rfl, z6, ← hT] at this
              exact this.mono fun _ _ k => ⟨⟨_, k.1⟩, Bx.below h k.2⟩
            have AN : Hid (∀ W5 Z5 W o c, Bx w w1.heap.size bt bm W5 Z5 1048576 [(false, bt, S3), (true, bm, S0)] W → ReadsFF (fun n => ¬ Z5 n) W5 (.slice o X.length c) X → Calls Tryz.prog 18 #[.pointer (some ⟨bt, 0, none⟩), .string ⟨#[108, 111, 103]⟩, .slice o X.length c] W fun r w' => r = .returned (.int .i64 0) ∧ Bx w w1.heap.size bt bm W5 Z5 1048576 [(false, bt, S4), (true, bm, S0)] w') := fun W5 Z5 W o c h hx => by
              have := h.janew g3 (by omega) ⟨#[108, 111, 103]⟩ (by decide) (.slice o X.length c) X (ReadsFF.reads (Bx.reads h hx)) hXok.1 hXok.2 (by rw [hXr]; exact z13)
              rw [show (⟨#[108, 111, 103]⟩ : ByteArray).data.toList = LGL from rfl, hXr, z5, ← hS4] at this
              exact this
            have R2 : Hid (∀ W5 Z5 W, Bx w w1.heap.size bt bm W5 Z5 1048576 [(false, bt, S4), (true, bm, S0)] W → Calls Tryz.prog 32 #[.pointer (some ⟨bt, 0, none⟩), .string ⟨#[108, 111, 103]⟩] W fun r w' => (∃ q, r = .returned (.tuple #[.string T, .int .i64 q])) ∧ Bx w w1.heap.size bt bm W5 Z5 1048576 [(false, bt, S4), (true, bm, S0)] w') := fun W5 Z5 W h => by
              have := h.readB ⟨#[108, 111, 103]⟩ (by decide)
              rw [show (⟨#[108, 111, 103]⟩ : ByteArray).data.toList = LGL from rfl, z7, ← hT] at this
              exact this.mono fun _ _ k => ⟨⟨_, k.1⟩, Bx.below h k.2⟩
            obtain ⟨cd, hcd⟩ : ∃ cd, cd = (jAdd 1048576 S4 LGL (rawOf xs2)).1 := ⟨_, rfl⟩
            obtain ⟨S5, hS5⟩ : ∃ S5, S5 = (jAdd 1048576 S4 LGL (rawOf xs2)).2 := ⟨_, rfl⟩
            have AD : Hid (∀ W5 Z5 W, Bx w w1.heap.size bt bm W5 Z5 1048576 [(false, bt, S4), (true, bm, S0)] W → Calls Tryz.prog 12 #[.pointer (some ⟨bt, 0, none⟩), .string ⟨#[108, 111, 103]⟩, .slice o2 xs2.length c2] W fun r w' => r = .returned (.int .i64 cd) ∧ Bx w w1.heap.size bt bm W5 Z5 1048576 [(false, bt, S5), (true, bm, S0)] w') := fun W5 Z5 W h => by
              have := h.jadd g4 (by omega) ⟨#[108, 111, 103]⟩ (by decide) (.slice o2 xs2.length c2) xs2 (HO.out W (bxBack h)) hx2
              rw [show (⟨#[108, 111, 103]⟩ : ByteArray).data.toList = LGL from rfl, ← hcd, ← hS5] at this
              exact this
            have hTe : X.length < 1 → T.size = 0 := fun h => by
              have h1 : ls = [] := List.eq_nil_of_length_eq_zero (by omega)
              rw [hT, h1]; rfl
            have d2 : (!T.toList == T.toList) = false := by simp
            have hXm : ∀ xs ∈ X, xs.length ≤ maxLen := fun xs hx => (hXok.2 xs hx).1
            have hXl1 := hXok.1
            have hXn : X.length ≤ 260200 := by omega
            have FN : cd = 0 → Hid (∀ W5 Z5 W o c, Bx w w1.heap.size bt bm W5 Z5 1048576 [(false, bt, S5), (true, bm, S0)] W → ReadsFF (fun n => ¬ Z5 n) W5 (.slice o X.length c) X → Calls Tryz.prog 26 #[.pointer (some ⟨bt, 0, none⟩), .string ⟨#[108, 111, 103]⟩] W fun r w' => ∃ oz cz oa ca wa ob cb wb, r = .returned (.tuple #[.slice oz (X.length + 1) cz, .bool true]) ∧ Below w.heap.size w w' ∧ (Builtin.append_ #[32, 32] 32 #[.slice (some ⟨w'.heap.size, 0, none⟩) 0 0, .slice o X.length c]).run Tryz.prog (w'.alloc (.cells #[] 37)) = .ok (.slice oa X.length ca) wa ∧ (Builtin.append_ #[32, 32] 32 #[.slice oa X.length ca, .slice (some ⟨wa.heap.size, 0, none⟩) 1 1]).run Tryz.prog (wa.alloc (.cells #[.slice o2 xs2.length c2] 37)) = .ok (.slice ob (X.length + 1) cb) wb ∧ (∀ W, Below wb.heap.size wb W → Calls Tryz.prog 17 #[.slice oz (X.length + 1) cz, .slice ob (X.length + 1) cb] W fun e W' => e = .returned (.bool true) ∧ Below wb.heap.size wb W') ∧ Below w.heap.size w wb) := fun hc0 W5 Z5 W o c h hx => by
              obtain ⟨y1, y2, y3⟩ := z14 (rawOf xs2) (by rw [← hcd]; exact hc0)
              rw [← hS5] at y1 y2 y3
              refine (Bx.jread h ⟨#[108, 111, 103]⟩ (by decide) y3).mono fun r w' k => ?_
              obtain ⟨oz, cz, W6, Z6, k1, k2, k3, k4, k5⟩ := k
              rw [show (⟨#[108, 111, 103]⟩ : ByteArray).data.toList = LGL from rfl] at k1 k2
              have hl1 : (ls ++ [rawOf xs2]).length = X.length + 1 := by rw [List.length_append, hXl]; rfl
              have hl2 : LLtxt (ls ++ [rawOf xs2]) = X ++ [xs2] := by
                unfold LLtxt at hX ⊢
                rw [List.map_append, ← hX]
                simp [map_raw]
              rw [y1, y2, hl1] at k1
              rw [y1, hl1, hl2] at k2
              have rx := ReadsFF.reads (Bx.reads k3 (ReadsFF.rebox hx k4 k5))
              have rz := ReadsFF.reads (Bx.reads k3 k2)
              obtain ⟨oa, ca, wa, a1, ob, cb, wb, a2, a3, a4⟩ := two_appends rx (HO.out _ (bxBack k3)) (by omega)
              refine ⟨oz, cz, oa, ca, wa, ob, cb, wb, k1, bxBack k3, a1, a2, ?_, (bxBack k3).trans (a4.mono (bxBack k3).size)⟩
              exact same_at (rz.below a4 a4.size) a3 (by rw [List.length_append]; simp only [maxLen] at hXl1 ⊢; simp; omega) (by
                intro xs hx
                rcases List.mem_append.1 hx with hx | hx
                · exact hXm xs hx
                · simp at hx; rw [hx]; exact hx2.1) (decide_eq_true rfl)
            clear z1 z2 z3 z4 z5 z6 z7 z8 z9 z10 z11 z12 z13 z14 hX hXl hXr hXok hT hls hS1 hS2 hS3 hS4 hS5 hcd hL hL1 hs9 hsz g1 g2 g3 g4 hg g0 L0 hS0 HR1 hx2 HO q1 q2 q3 hsk
            have hkn : k < 268435000 := by omega
            clear hs260 hk hxl
            by_cases hz : cd = 0
            · subst hz
              replace FN := FN rfl
              by_cases hX1 : X.length < 1
              · have d3 : decide ((X.length : Int) < 1) = true := by simp; omega
                have d4 : T.size = 0 := hTe hX1
                clear hTe
                go_wp2_with (first
                  | (go_at_call 24; with_reducible refine (AP.out _ hcr).mono ?_; rintro e w4 ⟨⟨q4, rfl⟩, h4⟩; have hm4 := bxAt h4)
                  | (go_at_call 15; with_reducible refine (O1.out _ h4).mono ?_; rintro e w5 ⟨ox, cx, W5, Z5, rfl, hx5, h5⟩; have hm5 := bxAt h5)
                  | (go_at_call 15; with_reducible refine (O2.out _ _ _ _ _ h5 hx5).mono ?_; rintro e w6 ⟨oy, cy, W6, Z6, rfl, hy6, hx6, h6⟩; have hm6 := bxAt h6)
                  | (go_at_call 32; with_reducible refine (R1.out _ _ _ h6).mono ?_; rintro e w7 ⟨⟨q7, rfl⟩, h7⟩; have hm7 := bxAt h7)
                  | (go_at_call 18; with_reducible refine (AN.out _ _ _ _ _ h7 hx6).mono ?_; rintro e w8 ⟨rfl, h8⟩; have hm8 := bxAt h8)
                  | (go_at_call 32; with_reducible refine (R2.out _ _ _ h8).mono ?_; rintro e w9 ⟨⟨q9, rfl⟩, h9⟩; have hm9 := bxAt h9; have K1 := same_at (ReadsFF.reads (Bx.reads h9 hx6)) (ReadsFF.reads (Bx.reads h9 hy6)) hXl1 hXm (decide_eq_true rfl); have b0 := Below.refl w9.heap.size w9)
                  | (go_at_call 17; with_reducible refine (K1 _ b0).mono ?_; rintro e w10 ⟨rfl, hb10⟩; have h10 := Bx.below h9 hb10; have hm10 := bxAt h10)
                  | (go_at_call 12; with_reducible refine (AD.out _ _ _ h10).mono ?_; rintro e w11 ⟨rfl, h11⟩; have hm11 := bxAt h11)
                  | (go_at_call 26; refine (FN.out _ _ _ _ _ h11 hx6).mono ?_; rintro e w12 ⟨oz, cz, oa, ca, wa, ob, cb, wb, rfl, hb12, a1, a2, K9, hbb⟩; have bz := Below.refl wb.heap.size wb)
                  | (at_builtin; refine wpList_append_eqg (by rfl) _ _ 32 rfl (.slice (some ⟨w12.heap.size, 0, none⟩) 0 0) (.slice ox X.length cx) (.slice oa X.length ca) wa rfl rfl a1 ?_)
                  | (at_builtin; refine wpList_append_eqg (by rfl) _ _ 32 rfl (.slice oa X.length ca) (.slice (some ⟨wa.heap.size, 0, none⟩) 1 1) (.slice ob (X.length + 1) cb) wb rfl rfl a2 ?_)
                  | (go_at_call 17; with_reducible refine (K9 _ bz).mono ?_; rintro e w13 ⟨rfl, hb13⟩))
                go_ret
                exact ⟨rfl, hbb.trans (hb13.mono hbb.size)⟩
              · have d3 : decide ((X.length : Int) < 1) = false := by simp; omega
                clear hTe
                go_wp2_with (first
                  | (go_at_call 24; with_reducible refine (AP.out _ hcr).mono ?_; rintro e w4 ⟨⟨q4, rfl⟩, h4⟩; have hm4 := bxAt h4)
                  | (go_at_call 15; with_reducible refine (O1.out _ h4).mono ?_; rintro e w5 ⟨ox, cx, W5, Z5, rfl, hx5, h5⟩; have hm5 := bxAt h5)
                  | (go_at_call 15; with_reducible refine (O2.out _ _ _ _ _ h5 hx5).mono ?_; rintro e w6 ⟨oy, cy, W6, Z6, rfl, hy6, hx6, h6⟩; have hm6 := bxAt h6)
                  | (go_at_call 32; with_reducible refine (R1.out _ _ _ h6).mono ?_; rintro e w7 ⟨⟨q7, rfl⟩, h7⟩; have hm7 := bxAt h7)
                  | (go_at_call 18; with_reducible refine (AN.out _ _ _ _ _ h7 hx6).mono ?_; rintro e w8 ⟨rfl, h8⟩; have hm8 := bxAt h8)
                  | (go_at_call 32; with_reducible refine (R2.out _ _ _ h8).mono ?_; rintro e w9 ⟨⟨q9, rfl⟩, h9⟩; have hm9 := bxAt h9; have K1 := same_at (ReadsFF.reads (Bx.reads h9 hx6)) (ReadsFF.reads (Bx.reads h9 hy6)) hXl1 hXm (decide_eq_true rfl); have b0 := Below.refl w9.heap.size w9)
                  | (go_at_call 17; with_reducible refine (K1 _ b0).mono ?_; rintro e w10 ⟨rfl, hb10⟩; have h10 := Bx.below h9 hb10; have hm10 := bxAt h10)
                  | (go_at_call 12; with_reducible refine (AD.out _ _ _ h10).mono ?_; rintro e w11 ⟨rfl, h11⟩; have hm11 := bxAt h11)
                  | (go_at_call 26; refine (FN.out _ _ _ _ _ h11 hx6).mono ?_; rintro e w12 ⟨oz, cz, oa, ca, wa, ob, cb, wb, rfl, hb12, a1, a2, K9, hbb⟩; have bz := Below.refl wb.heap.size wb)
                  | (at_builtin; refine wpList_append_eqg (by rfl) _ _ 32 rfl (.slice (some ⟨w12.heap.size, 0, none⟩) 0 0) (.slice ox X.length cx) (.slice oa X.length ca) wa rfl rfl a1 ?_)
                  | (at_builtin; refine wpList_append_eqg (by rfl) _ _ 32 rfl (.slice oa X.length ca) (.slice (some ⟨wa.heap.size, 0, none⟩) 1 1) (.slice ob (X.length + 1) cb) wb rfl rfl a2 ?_)
                  | (go_at_call 17; with_reducible refine (K9 _ bz).mono ?_; rintro e w13 ⟨rfl, hb13⟩))
                go_ret
                exact ⟨rfl, hbb.trans (hb13.mono hbb.size)⟩
            · have e0 : (cd != 0) = true := by simpa using hz
              clear hz FN
              by_cases hX1 : X.length < 1
              · have d3 : decide ((X.length : Int) < 1) = true := by simp; omega
                have d4 : T.size = 0 := hTe hX1
                clear hTe
                go_wp2_with (first
                  | (go_at_call 24; with_reducible refine (AP.out _ hcr).mono ?_; rintro e w4 ⟨⟨q4, rfl⟩, h4⟩; have hm4 := bxAt h4)
                  | (go_at_call 15; with_reducible refine (O1.out _ h4).mono ?_; rintro e w5 ⟨ox, cx, W5, Z5, rfl, hx5, h5⟩; have hm5 := bxAt h5)
                  | (go_at_call 15; with_reducible refine (O2.out _ _ _ _ _ h5 hx5).mono ?_; rintro e w6 ⟨oy, cy, W6, Z6, rfl, hy6, hx6, h6⟩; have hm6 := bxAt h6)
                  | (go_at_call 32; with_reducible refine (R1.out _ _ _ h6).mono ?_; rintro e w7 ⟨⟨q7, rfl⟩, h7⟩; have hm7 := bxAt h7)
                  | (go_at_call 18; with_reducible refine (AN.out _ _ _ _ _ h7 hx6).mono ?_; rintro e w8 ⟨rfl, h8⟩; have hm8 := bxAt h8)
                  | (go_at_call 32; with_reducible refine (R2.out _ _ _ h8).mono ?_; rintro e w9 ⟨⟨q9, rfl⟩, h9⟩; have hm9 := bxAt h9; have K1 := same_at (ReadsFF.reads (Bx.reads h9 hx6)) (ReadsFF.reads (Bx.reads h9 hy6)) hXl1 hXm (decide_eq_true rfl); have b0 := Below.refl w9.heap.size w9)
                  | (go_at_call 17; with_reducible refine (K1 _ b0).mono ?_; rintro e w10 ⟨rfl, hb10⟩; have h10 := Bx.below h9 hb10; have hm10 := bxAt h10)
                  | (go_at_call 12; with_reducible refine (AD.out _ _ _ h10).mono ?_; rintro e w11 ⟨rfl, h11⟩; have hm11 := bxAt h11))
                go_ret
                exact ⟨rfl, bxBack h11⟩
              · have d3 : decide ((X.length : Int) < 1) = false := by simp; omega
                clear hTe
                go_wp2_with (first
                  | (go_at_call 24; with_reducible refine (AP.out _ hcr).mono ?_; rintro e w4 ⟨⟨q4, rfl⟩, h4⟩; have hm4 := bxAt h4)
                  | (go_at_call 15; with_reducible refine (O1.out _ h4).mono ?_; rintro e w5 ⟨ox, cx, W5, Z5, rfl, hx5, h5⟩; have hm5 := bxAt h5)
                  | (go_at_call 15; with_reducible refine (O2.out _ _ _ _ _ h5 hx5).mono ?_; rintro e w6 ⟨oy, cy, W6, Z6, rfl, hy6, hx6, h6⟩; have hm6 := bxAt h6)
                  | (go_at_call 32; with_reducible refine (R1.out _ _ _ h6).mono ?_; rintro e w7 ⟨⟨q7, rfl⟩, h7⟩; have hm7 := bxAt h7)
                  | (go_at_call 18; with_reducible refine (AN.out _ _ _ _ _ h7 hx6).mono ?_; rintro e w8 ⟨rfl, h8⟩; have hm8 := bxAt h8)
                  | (go_at_call 32; with_reducible refine (R2.out _ _ _ h8).mono ?_; rintro e w9 ⟨⟨q9, rfl⟩, h9⟩; have hm9 := bxAt h9; have K1 := same_at (ReadsFF.reads (Bx.reads h9 hx6)) (ReadsFF.reads (Bx.reads h9 hy6)) hXl1 hXm (decide_eq_true rfl); have b0 := Below.refl w9.heap.size w9)
                  | (go_at_call 17; with_reducible refine (K1 _ b0).mono ?_; rintro e w10 ⟨rfl, hb10⟩; have h10 := Bx.below h9 hb10; have hm10 := bxAt h10)
                  | (go_at_call 12; with_reducible refine (AD.out _ _ _ h10).mono ?_; rintro e w11 ⟨rfl, h11⟩; have hm11 := bxAt h11))
                go_ret
                exact ⟨rfl, bxBack h11⟩

end Go.Proofs.YtgnappifekacpaaGreatDoor
