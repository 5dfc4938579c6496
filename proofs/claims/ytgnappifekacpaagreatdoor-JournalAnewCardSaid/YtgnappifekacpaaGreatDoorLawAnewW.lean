/-
  What JournalAnew answers: true.
-/
import Derived.Deep.RegionHeld3
import Derived.Deep.QuietTactic
import Derived.BigQuiet
import Derived.Test.YtgnappifekacpaaGreatDoorJLib
namespace Go.Proofs.YtgnappifekacpaaGreatDoor
open Go.RowKit Go.Shelf Go.Maps

set_option maxRecDepth 100000 in
set_option maxHeartbeats 16000000 in
theorem journalAnew_walk (v0 : Value) (xs0 : List (List ByteArray)) (hn0 : xs0.length ≤ maxLen) (hz0 : ∀ l ∈ xs0, l.length ≤ maxLen ∧ ∀ x ∈ l, x.size ≤ maxLen) (v1 : Value) (xs1 : List (List ByteArray)) (hn1 : xs1.length ≤ maxLen) (hz1 : ∀ l ∈ xs1, l.length ≤ maxLen ∧ ∀ x ∈ l, x.size ≤ maxLen) (i2 : Int) (hi2 : -9223372036854775808 ≤ i2 ∧ i2 ≤ 9223372036854775807) (i3 : Int) (hi3 : -9223372036854775808 ≤ i3 ∧ i3 ≤ 9223372036854775807) (w : World) (hr0 : ReadsLL w w.heap.size v0 xs0) (hr1 : ReadsLL w w.heap.size v1 xs1) :
    Calls Tryz.prog 5 #[v0, v1, .int .i64 i2, .int .i64 i3] w (LawPost w) := by
  have HSh := Lib.hid (shown_at w)
  have HT0 := Lib.hid (tiny_at hr0 hn0 hz0)
  have HT1 := Lib.hid (tiny_at hr1 hn1 hz1)
  have HBg := Lib.hid (begun_at 1048576 (by omega) (by omega) w)
  have hb0 : Below w.heap.size w w := Below.refl _ _
  cases ht0 : tinyB xs0 with
  | false =>
    rw [ht0] at HT0
    cases ht1 : tinyB xs1 with
    | false =>
      rw [ht1] at HT1
      clear hr0 hr1 hn0 hn1 hz0 hz1 hi2 hi3 ht0 ht1
      go_enter Tryz.func5, Tryz.ntmps5
      go_wp2_with (first
        | (go_at_call 8; refine (HSh.out _ hb0).mono ?_; rintro e w2 ⟨rfl, hb2⟩)
        | (go_at_call 29; with_reducible refine (HT0.out _ hb2).mono ?_; rintro e w3 ⟨rfl, rfl⟩)
        | (go_at_call 29; with_reducible refine (HT1.out _ hb2).mono ?_; rintro e w3 ⟨rfl, rfl⟩)
        | (go_at_call 10; refine (HBg.out _ hb2).mono ?_; rintro e w1 ⟨bt, bm, rfl, h0⟩))
      go_ret
      exact ⟨rfl, boxBack h0⟩
    | true =>
      rw [ht1] at HT1
      clear hr0 hr1 hn0 hn1 hz0 hz1 hi2 hi3 ht0 ht1
      go_enter Tryz.func5, Tryz.ntmps5
      go_wp2_with (first
        | (go_at_call 8; refine (HSh.out _ hb0).mono ?_; rintro e w2 ⟨rfl, hb2⟩)
        | (go_at_call 29; with_reducible refine (HT0.out _ hb2).mono ?_; rintro e w3 ⟨rfl, rfl⟩)
        | (go_at_call 29; with_reducible refine (HT1.out _ hb2).mono ?_; rintro e w3 ⟨rfl, rfl⟩)
        | (go_at_call 10; refine (HBg.out _ hb2).mono ?_; rintro e w1 ⟨bt, bm, rfl, h0⟩))
      go_ret
      exact ⟨rfl, boxBack h0⟩
  | true =>
    rw [ht0] at HT0
    cases ht1 : tinyB xs1 with
    | false =>
      rw [ht1] at HT1
      clear hr0 hr1 hn0 hn1 hz0 hz1 hi2 hi3 ht0 ht1
      go_enter Tryz.func5, Tryz.ntmps5
      go_wp2_with (first
        | (go_at_call 8; refine (HSh.out _ hb0).mono ?_; rintro e w2 ⟨rfl, hb2⟩)
        | (go_at_call 29; with_reducible refine (HT0.out _ hb2).mono ?_; rintro e w3 ⟨rfl, rfl⟩)
        | (go_at_call 29; with_reducible refine (HT1.out _ hb2).mono ?_; rintro e w3 ⟨rfl, rfl⟩)
        | (go_at_call 10; refine (HBg.out _ hb2).mono ?_; rintro e w1 ⟨bt, bm, rfl, h0⟩))
      go_ret
      exact ⟨rfl, boxBack h0⟩
    | true =>
      rw [ht1] at HT1
      obtain ⟨q0, q1, q2, q3⟩ := tiny_okb ht0
      obtain ⟨r0, r1, r2, r3⟩ := tiny_okb ht1
      clear hn0 hn1 hz0 hz1 ht0 ht1
      go_enter Tryz.func5, Tryz.ntmps5
      go_wp2_with (first
        | (go_at_call 8; refine (HSh.out _ hb0).mono ?_; rintro e w2 ⟨rfl, hb2⟩)
        | (go_at_call 29; with_reducible refine (HT0.out _ hb2).mono ?_; rintro e w3 ⟨rfl, rfl⟩)
        | (go_at_call 29; with_reducible refine (HT1.out _ hb2).mono ?_; rintro e w3 ⟨rfl, rfl⟩)
        | (go_at_call 10; refine (HBg.out _ hb2).mono ?_; rintro e w1 ⟨bt, bm, rfl, h0'⟩; have h0 := Box.bx h0'; have hm0 := bxAt h0; clear h0'))
      clear HSh HT0 HT1 HBg hb2
      obtain ⟨S0, hS0⟩ : ∃ S0 : St, S0 = (0, [], [], []) := ⟨_, rfl⟩
      rw [← hS0] at h0
      have g0 : Good 1048576 0 S0 := by rw [hS0]; exact Good.new (by omega) (by omega)
      obtain ⟨c1, hc1⟩ : ∃ c1, c1 = (jAnew 1048576 S0 LGL (rawLL xs0)).1 := ⟨_, rfl⟩
      obtain ⟨S1, hS1⟩ : ∃ S1, S1 = (jAnew 1048576 S0 LGL (rawLL xs0)).2 := ⟨_, rfl⟩
      have g1 : Good 1048576 3 S1 := by rw [hS1]; exact g0.jAnew _ _
      have A1 : Hid (∀ W1 Z W, Bx w w1.heap.size bt bm W1 Z 1048576 [(false, bt, S0), (true, bm, S0)] W → Calls Tryz.prog 18 #[.pointer (some ⟨bt, 0, none⟩), .string ⟨#[108, 111, 103]⟩, v0] W fun r w' => r = .returned (.int .i64 c1) ∧ Bx w w1.heap.size bt bm W1 Z 1048576 [(false, bt, S1), (true, bm, S0)] w') := fun W1 Z W h => by
        have := h.janew g0 (by omega) ⟨#[108, 111, 103]⟩ (by decide) v0 xs0 (hr0.below (bxBack h) (bxBack h).size) q0 q1 q2
        rw [show (⟨#[108, 111, 103]⟩ : ByteArray).data.toList = LGL from rfl, ← hc1, ← hS1] at this
        exact this
      by_cases hz1 : c1 = 0
      · subst hz1
        have CL : Hid (∀ W1 Z W, Bx w w1.heap.size bt bm W1 Z 1048576 [(false, bt, S1), (true, bm, S0)] W → Calls Tryz.prog 31 #[.pointer (some ⟨bt, 0, none⟩)] W fun r w' => ∃ c, r = .returned (.pointer (some ⟨c, 0, none⟩)) ∧ Bx w w1.heap.size bt bm W1 Z 1048576 [(false, c, S1), (false, bt, S1), (true, bm, S0)] w') := fun W1 Z W h => h.clone g1 (by omega)
        obtain ⟨c2, hc2⟩ : ∃ c2, c2 = (jAnew 1048576 S1 LGL (rawLL xs1)).1 := ⟨_, rfl⟩
        obtain ⟨S2, hS2⟩ : ∃ S2, S2 = (jAnew 1048576 S1 LGL (rawLL xs1)).2 := ⟨_, rfl⟩
        have g2 : Good 1048576 6 S2 := by rw [hS2]; exact g1.jAnew _ _
        have A2 : Hid (∀ c W1 Z W, Bx w w1.heap.size bt bm W1 Z 1048576 [(false, c, S1), (false, bt, S1), (true, bm, S0)] W → Calls Tryz.prog 18 #[.pointer (some ⟨c, 0, none⟩), .string ⟨#[108, 111, 103]⟩, v1] W fun r w' => r = .returned (.int .i64 c2) ∧ Bx w w1.heap.size bt bm W1 Z 1048576 [(false, c, S2), (false, bt, S1), (true, bm, S0)] w') := fun c W1 Z W h => by
          have := h.janew g1 (by omega) ⟨#[108, 111, 103]⟩ (by decide) v1 xs1 (hr1.below (bxBack h) (bxBack h).size) r0 r1 r2
          rw [show (⟨#[108, 111, 103]⟩ : ByteArray).data.toList = LGL from rfl, ← hc2, ← hS2] at this
          exact this
        by_cases hz2 : c2 = 0
        · subst hz2
          obtain ⟨S3, hS3⟩ : ∃ S3, S3 = (opW 1048576 S1 (besideL LGL) (linesOfAll (rawLL xs1))).2 := ⟨_, rfl⟩
          obtain ⟨S4, hS4⟩ : ∃ S4, S4 = (opN S3 (besideL LGL) LGL).2 := ⟨_, rfl⟩
          obtain ⟨S5, hS5⟩ : ∃ S5, S5 = opC S4 i2 i3 := ⟨_, rfl⟩
          have g3 : Good 1048576 4 S3 := by rw [hS3]; exact g1.opW _ _
          have g4 : Good 1048576 5 S4 := by rw [hS4]; exact g3.opN _ _
          have g5 : Good 1048576 5 S5 := by rw [hS5]; exact g4.opC _ _
          obtain ⟨z1, z2, z3, z4, z5, z6, z7, z8, z9, z10⟩ := anew_law i2 i3 q3 r3 hS0 hS1 hc1.symm hS2 hc2.symm (S5 := S5) (by rw [hS5, hS4, hS3])
          obtain ⟨T, hT⟩ : ∃ T, T = txt (linesOfAll (rawLL xs1)) := ⟨_, rfl⟩
          have hTz : T.size ≤ 1048576 := by rw [hT, txt_size]; omega
          have hTd : T.data.toList = linesOfAll (rawLL xs1) := by rw [hT, txt_data]
          have RD : Hid (∀ c W1 Z W, Bx w w1.heap.size bt bm W1 Z 1048576 [(false, c, S2), (false, bt, S1), (true, bm, S0)] W → Calls Tryz.prog 32 #[.pointer (some ⟨c, 0, none⟩), .string ⟨#[108, 111, 103]⟩] W fun r w' => (∃ q, r = .returned (.tuple #[.string T, .int .i64 q])) ∧ Bx w w1.heap.size bt bm W1 Z 1048576 [(false, bt, S1), (false, c, S2), (true, bm, S0)] w') := fun c W1 Z W h => by
            have := h.readB ⟨#[108, 111, 103]⟩ (by decide)
            rw [show (⟨#[108, 111, 103]⟩ : ByteArray).data.toList = LGL from rfl, z1, ← hT] at this
            exact this.mono fun _ _ k => ⟨⟨_, k.1⟩, (Bx.below h k.2).swap⟩
          have WR : Hid (∀ c W1 Z W, Bx w w1.heap.size bt bm W1 Z 1048576 [(false, bt, S1), (false, c, S2), (true, bm, S0)] W → Calls Tryz.prog 33 #[.pointer (some ⟨bt, 0, none⟩), .string ⟨#[108, 111, 103, 46, 110, 101, 119]⟩, .string T] W fun r w' => (∃ q, r = .returned (.int .i64 q)) ∧ Bx w w1.heap.size bt bm W1 Z 1048576 [(false, bt, S3), (false, c, S2), (true, bm, S0)] w') := fun c W1 Z W h => by
            have := h.write g1 (by omega) ⟨#[108, 111, 103, 46, 110, 101, 119]⟩ T (by decide) hTz
            rw [show (⟨#[108, 111, 103, 46, 110, 101, 119]⟩ : ByteArray).data.toList = besideL LGL from rfl, hTd, ← hS3] at this
            exact this.mono fun _ _ k => ⟨⟨_, k.1⟩, k.2⟩
          have RN : Hid (∀ c W1 Z W, Bx w w1.heap.size bt bm W1 Z 1048576 [(false, bt, S3), (false, c, S2), (true, bm, S0)] W → Calls Tryz.prog 34 #[.pointer (some ⟨bt, 0, none⟩), .string ⟨#[108, 111, 103, 46, 110, 101, 119]⟩, .string ⟨#[108, 111, 103]⟩] W fun r w' => (∃ q, r = .returned (.int .i64 q)) ∧ Bx w w1.heap.size bt bm W1 Z 1048576 [(false, bt, S4), (false, c, S2), (true, bm, S0)] w') := fun c W1 Z W h => by
            have := h.rename g3 (by omega) ⟨#[108, 111, 103, 46, 110, 101, 119]⟩ ⟨#[108, 111, 103]⟩ (by decide) (by decide)
            rw [show (⟨#[108, 111, 103, 46, 110, 101, 119]⟩ : ByteArray).data.toList = besideL LGL from rfl, show (⟨#[108, 111, 103]⟩ : ByteArray).data.toList = LGL from rfl, ← hS4] at this
            exact this.mono fun _ _ k => ⟨⟨_, k.1⟩, k.2⟩
          have CR : Hid (∀ c W1 Z W, Bx w w1.heap.size bt bm W1 Z 1048576 [(false, bt, S4), (false, c, S2), (true, bm, S0)] W → Calls Tryz.prog 22 #[.pointer (some ⟨bt, 0, none⟩), .int .i64 i2, .int .i64 i3] W fun r w' => r = .returned (.tuple #[]) ∧ Bx w w1.heap.size bt bm W1 Z 1048576 [(false, bt, S5), (false, c, S2), (true, bm, S0)] w') := fun c W1 Z W h => by
            rw [hS5]; exact h.crash g4 i2 i3 (by omega)
          obtain ⟨X, hX⟩ : ∃ X, X = LLtxt (jOpen 1048576 S5 LGL).1 := ⟨_, rfl⟩
          obtain ⟨NX, hNX⟩ : ∃ NX, NX = (jOpen 1048576 S5 LGL).1.length := ⟨_, rfl⟩
          obtain ⟨S6, hS6⟩ : ∃ S6, S6 = (jOpen 1048576 S5 LGL).2.2 := ⟨_, rfl⟩
          obtain ⟨S7, hS7⟩ : ∃ S7, S7 = (jOpen 1048576 S2 LGL).2.2 := ⟨_, rfl⟩
          have O1 : Hid (∀ c W1 Z W, Bx w w1.heap.size bt bm W1 Z 1048576 [(false, bt, S5), (false, c, S2), (true, bm, S0)] W → Calls Tryz.prog 15 #[.pointer (some ⟨bt, 0, none⟩), .string ⟨#[108, 111, 103]⟩] W fun r w' => ∃ o k w5 Z5, r = .returned (.tuple #[.slice o NX k, .int .i64 0]) ∧ ReadsFF (fun n => ¬ Z5 n) w5 (.slice o NX k) X ∧ Bx w w1.heap.size bt bm w5 Z5 1048576 [(false, c, S2), (false, bt, S6), (true, bm, S0)] w') := fun c W1 Z W h => by
            refine (Bx.jopen h g5 (by omega) ⟨#[108, 111, 103]⟩ (by decide) z4).mono fun r w' k => ?_
            obtain ⟨o, k, w5, Z5, k1, k2, k3, _⟩ := k
            rw [show (⟨#[108, 111, 103]⟩ : ByteArray).data.toList = LGL from rfl] at k1 k2 k3
            rw [z7] at k1
            rw [hNX, hX, hS6]
            exact ⟨o, k, w5, Z5, k1, k2, k3.swap⟩
          have hN1 : (rawLL xs1).length = xs1.length := by simp [rawLL]
          have O2 : Hid (∀ c W1 Z W, Bx w w1.heap.size bt bm W1 Z 1048576 [(false, c, S2), (false, bt, S6), (true, bm, S0)] W → Calls Tryz.prog 15 #[.pointer (some ⟨c, 0, none⟩), .string ⟨#[108, 111, 103]⟩] W fun r w' => ∃ o k w5 Z5, r = .returned (.tuple #[.slice o xs1.length k, .int .i64 0]) ∧ ReadsFF (fun n => ¬ Z5 n) w5 (.slice o xs1.length k) xs1 ∧ Bx w w1.heap.size bt bm w5 Z5 1048576 [(false, bt, S6), (false, c, S7), (true, bm, S0)] w' ∧ Turned Z W1 w5 ∧ ∀ n, Z5 n → Z n) := fun c W1 Z W h => by
            refine (Bx.jopen h g2 (by omega) ⟨#[108, 111, 103]⟩ (by decide) z3).mono fun r w' k => ?_
            obtain ⟨o, k, w5, Z5, k1, k2, k3, k4, k5⟩ := k
            rw [show (⟨#[108, 111, 103]⟩ : ByteArray).data.toList = LGL from rfl] at k1 k2 k3
            rw [z5, z6, hN1] at k1
            rw [z5, txt_raw, hN1] at k2
            rw [hS7]
            exact ⟨o, k, w5, Z5, k1, k2, k3.swap, k4, k5⟩
          obtain ⟨T6, hT6⟩ : ∃ T6, T6 = txt (textOf S6.now (besideL LGL)) := ⟨_, rfl⟩
          have R2 : Hid (∀ l W1 Z W, Bx w w1.heap.size bt bm W1 Z 1048576 ((false, bt, S6) :: l) W → Calls Tryz.prog 32 #[.pointer (some ⟨bt, 0, none⟩), .string ⟨#[108, 111, 103, 46, 110, 101, 119]⟩] W fun r w' => r = .returned (.tuple #[.string T6, .int .i64 4]) ∧ Below W.heap.size W w') := fun l W1 Z W h => by
            have := h.readB ⟨#[108, 111, 103, 46, 110, 101, 119]⟩ (by decide)
            rw [show (⟨#[108, 111, 103, 46, 110, 101, 119]⟩ : ByteArray).data.toList = besideL LGL from rfl, ← hT6] at this
            rw [hS6, z10] at this
            exact this
          have hX1 : 2 ≤ i2 → X = xs1 := fun h => by rw [hX, z8 h, txt_raw]
          have hX0 : ¬ 2 ≤ i2 → X = xs0 := fun h => by rw [hX, z9 h, txt_raw]
          have HR0 : Hid (∀ W, Below w.heap.size w W → ReadsLL W W.heap.size v0 xs0) := fun W hb => hr0.below hb hb.size
          have HR1 : Hid (∀ W, Below w.heap.size w W → ReadsLL W W.heap.size v1 xs1) := fun W hb => hr1.below hb hb.size
          have m0 := fun xs hx => (q1 xs hx).1
          have m1 := fun xs hx => (r1 xs hx).1
          clear z1 z2 z3 z4 z5 z6 z7 z8 z9 z10 hT hTz hTd hX hNX hS6 hS7 hN1 hT6 g0 g1 g2 g3 g4 g5 hS0 hS1 hS2 hS3 hS4 hS5 hc1 hc2 hr0 hr1 q1 r1 q2 r2 q3 r3
          by_cases hm2 : 2 ≤ i2
          · obtain rfl := hX1 hm2
            have d1 : decide (2 ≤ i2) = true := decide_eq_true hm2
            clear hX1 hX0 hm2
            go_wp2_with (first
              | (go_at_call 18; with_reducible refine (A1.out _ _ _ h0).mono ?_; rintro e w4 ⟨rfl, h4⟩; have hm4 := bxAt h4)
              | (go_at_call 31; with_reducible refine (CL.out _ _ _ h4).mono ?_; rintro e w5 ⟨c, rfl, h5⟩; have hm5 := bxAt h5)
              | (go_at_call 18; with_reducible refine (A2.out _ _ _ _ h5).mono ?_; rintro e w6 ⟨rfl, h6⟩; have hm6 := bxAt h6)
              | (go_at_call 32; with_reducible refine (RD.out _ _ _ _ h6).mono ?_; rintro e w7 ⟨⟨c7, rfl⟩, h7⟩; have hm7 := bxAt h7)
              | (go_at_call 33; with_reducible refine (WR.out _ _ _ _ h7).mono ?_; rintro e w8 ⟨⟨c8, rfl⟩, h8⟩; have hm8 := bxAt h8)
              | (go_at_call 34; with_reducible refine (RN.out _ _ _ _ h8).mono ?_; rintro e w9 ⟨⟨c9, rfl⟩, h9⟩; have hm9 := bxAt h9)
              | (go_at_call 22; with_reducible refine (CR.out _ _ _ _ h9).mono ?_; rintro e w10 ⟨rfl, h10⟩; have hm10 := bxAt h10)
              | (go_at_call 15; with_reducible refine (O1.out _ _ _ _ h10).mono ?_; rintro e w11 ⟨ox, kx, wx, Zx, rfl, hx, h11⟩; have hm11 := bxAt h11)
              | (go_at_call 15; with_reducible refine (O2.out _ _ _ _ h11).mono ?_; rintro e w12 ⟨oy, ky, wy, Zy, rfl, hy, h12, ht12, hz12⟩; have hm12 := bxAt h12)
              | (go_at_call 32; with_reducible refine (R2.out _ _ _ _ h12).mono ?_; rintro e w13 ⟨rfl, hb13⟩; have h13 := Bx.below h12 hb13; have Rx := ReadsFF.reads (Bx.reads h13 (ReadsFF.rebox hx ht12 hz12)); have Ry := ReadsFF.reads (Bx.reads h13 hy); have Rl := HR1.out _ (bxBack h13); have Ro := HR0.out _ (bxBack h13); have bb := bxBack h13; have b0 := Below.refl w13.heap.size w13; have K1 := same_at Ry Rl r0 m1 (decide_eq_true rfl); have K2 := same_at Rx Rl r0 m1 (decide_eq_true rfl); clear Rx Ry Rl Ro hx hy)
              | (go_at_call 17; with_reducible refine (K1 _ b0).mono ?_; rintro e w14 ⟨rfl, hb14⟩)
              | (go_at_call 17; with_reducible refine (K2 _ hb14).mono ?_; rintro e w15 ⟨rfl, hb15⟩))
            go_ret
            exact ⟨rfl, bb.trans (hb15.mono bb.size)⟩
          · obtain rfl := hX0 hm2
            have d1 : decide (2 ≤ i2) = false := decide_eq_false hm2
            have d2 : decide (i2 < 2) = true := decide_eq_true (by omega)
            clear hX1 hX0 hm2
            by_cases hsame : X = xs1
            · have K30 : decide (xs1 = X) = true := decide_eq_true hsame.symm
              go_wp2_with (first
                | (go_at_call 18; with_reducible refine (A1.out _ _ _ h0).mono ?_; rintro e w4 ⟨rfl, h4⟩; have hm4 := bxAt h4)
                | (go_at_call 31; with_reducible refine (CL.out _ _ _ h4).mono ?_; rintro e w5 ⟨c, rfl, h5⟩; have hm5 := bxAt h5)
                | (go_at_call 18; with_reducible refine (A2.out _ _ _ _ h5).mono ?_; rintro e w6 ⟨rfl, h6⟩; have hm6 := bxAt h6)
                | (go_at_call 32; with_reducible refine (RD.out _ _ _ _ h6).mono ?_; rintro e w7 ⟨⟨c7, rfl⟩, h7⟩; have hm7 := bxAt h7)
                | (go_at_call 33; with_reducible refine (WR.out _ _ _ _ h7).mono ?_; rintro e w8 ⟨⟨c8, rfl⟩, h8⟩; have hm8 := bxAt h8)
                | (go_at_call 34; with_reducible refine (RN.out _ _ _ _ h8).mono ?_; rintro e w9 ⟨⟨c9, rfl⟩, h9⟩; have hm9 := bxAt h9)
                | (go_at_call 22; with_reducible refine (CR.out _ _ _ _ h9).mono ?_; rintro e w10 ⟨rfl, h10⟩; have hm10 := bxAt h10)
                | (go_at_call 15; with_reducible refine (O1.out _ _ _ _ h10).mono ?_; rintro e w11 ⟨ox, kx, wx, Zx, rfl, hx, h11⟩; have hm11 := bxAt h11)
                | (go_at_call 15; with_reducible refine (O2.out _ _ _ _ h11).mono ?_; rintro e w12 ⟨oy, ky, wy, Zy, rfl, hy, h12, ht12, hz12⟩; have hm12 := bxAt h12)
                | (go_at_call 32; with_reducible refine (R2.out _ _ _ _ h12).mono ?_; rintro e w13 ⟨rfl, hb13⟩; have h13 := Bx.below h12 hb13; have Rx := ReadsFF.reads (Bx.reads h13 (ReadsFF.rebox hx ht12 hz12)); have Ry := ReadsFF.reads (Bx.reads h13 hy); have Rl := HR1.out _ (bxBack h13); have Ro := HR0.out _ (bxBack h13); have bb := bxBack h13; have b0 := Below.refl w13.heap.size w13; have K1 := same_at Ry Rl r0 m1 (decide_eq_true rfl); have K2 := same_at Rx Rl q0 m0 (decide_eq_true hsame); have K3 := same_at Rl Ro r0 m1 K30; clear Rx Ry Rl Ro hx hy)
                | (go_at_call 17; with_reducible refine (K1 _ b0).mono ?_; rintro e w14 ⟨rfl, hb14⟩)
                | (go_at_call 17; with_reducible refine (K2 _ hb14).mono ?_; rintro e w15 ⟨rfl, hb15⟩)
                | (go_at_call 17; with_reducible refine (K3 _ hb15).mono ?_; rintro e w16 ⟨rfl, hb16⟩))
              go_ret
              exact ⟨rfl, bb.trans (hb16.mono bb.size)⟩
            · go_wp2_with (first
                | (go_at_call 18; with_reducible refine (A1.out _ _ _ h0).mono ?_; rintro e w4 ⟨rfl, h4⟩; have hm4 := bxAt h4)
                | (go_at_call 31; with_reducible refine (CL.out _ _ _ h4).mono ?_; rintro e w5 ⟨c, rfl, h5⟩; have hm5 := bxAt h5)
                | (go_at_call 18; with_reducible refine (A2.out _ _ _ _ h5).mono ?_; rintro e w6 ⟨rfl, h6⟩; have hm6 := bxAt h6)
                | (go_at_call 32; with_reducible refine (RD.out _ _ _ _ h6).mono ?_; rintro e w7 ⟨⟨c7, rfl⟩, h7⟩; have hm7 := bxAt h7)
                | (go_at_call 33; with_reducible refine (WR.out _ _ _ _ h7).mono ?_; rintro e w8 ⟨⟨c8, rfl⟩, h8⟩; have hm8 := bxAt h8)
                | (go_at_call 34; with_reducible refine (RN.out _ _ _ _ h8).mono ?_; rintro e w9 ⟨⟨c9, rfl⟩, h9⟩; have hm9 := bxAt h9)
                | (go_at_call 22; with_reducible refine (CR.out _ _ _ _ h9).mono ?_; rintro e w10 ⟨rfl, h10⟩; have hm10 := bxAt h10)
                | (go_at_call 15; with_reducible refine (O1.out _ _ _ _ h10).mono ?_; rintro e w11 ⟨ox, kx, wx, Zx, rfl, hx, h11⟩; have hm11 := bxAt h11)
                | (go_at_call 15; with_reducible refine (O2.out _ _ _ _ h11).mono ?_; rintro e w12 ⟨oy, ky, wy, Zy, rfl, hy, h12, ht12, hz12⟩; have hm12 := bxAt h12)
                | (go_at_call 32; with_reducible refine (R2.out _ _ _ _ h12).mono ?_; rintro e w13 ⟨rfl, hb13⟩; have h13 := Bx.below h12 hb13; have Rx := ReadsFF.reads (Bx.reads h13 (ReadsFF.rebox hx ht12 hz12)); have Ry := ReadsFF.reads (Bx.reads h13 hy); have Rl := HR1.out _ (bxBack h13); have Ro := HR0.out _ (bxBack h13); have bb := bxBack h13; have b0 := Below.refl w13.heap.size w13; have K1 := same_at Ry Rl r0 m1 (decide_eq_true rfl); have K2 := same_at Rx Rl q0 m0 (decide_eq_false hsame); have K4 := same_at Rx Ro q0 m0 (decide_eq_true rfl); clear Rx Ry Rl Ro hx hy)
                | (go_at_call 17; with_reducible refine (K1 _ b0).mono ?_; rintro e w14 ⟨rfl, hb14⟩)
                | (go_at_call 17; with_reducible refine (K2 _ hb14).mono ?_; rintro e w15 ⟨rfl, hb15⟩)
                | (go_at_call 17; with_reducible refine (K4 _ hb15).mono ?_; rintro e w16 ⟨rfl, hb16⟩))
              go_ret
              exact ⟨rfl, bb.trans (hb16.mono bb.size)⟩
        · have e2 : (c2 != 0) = true := by simpa using hz2
          clear hz2 hc1 hc2 g0 g1 g2 hS0 hS1 hS2 hr0 hr1 q0 q1 q2 q3 r0 r1 r2 r3
          go_wp2_with (first
            | (go_at_call 18; with_reducible refine (A1.out _ _ _ h0).mono ?_; rintro e w4 ⟨rfl, h4⟩; have hm4 := bxAt h4)
            | (go_at_call 31; with_reducible refine (CL.out _ _ _ h4).mono ?_; rintro e w5 ⟨c, rfl, h5⟩; have hm5 := bxAt h5)
            | (go_at_call 18; with_reducible refine (A2.out _ _ _ _ h5).mono ?_; rintro e w6 ⟨rfl, h6⟩; have hm6 := bxAt h6))
          go_ret
          exact ⟨rfl, bxBack h6⟩
      · have e1 : (c1 != 0) = true := by simpa using hz1
        clear hz1 hc1 g0 g1 hS0 hS1 hr0 hr1 q0 q1 q2 q3 r0 r1 r2 r3
        go_wp2_with (go_at_call 18; with_reducible refine (A1.out _ _ _ h0).mono ?_; rintro e w4 ⟨rfl, h4⟩)
        go_ret
        exact ⟨rfl, bxBack h4⟩

end Go.Proofs.YtgnappifekacpaaGreatDoor
