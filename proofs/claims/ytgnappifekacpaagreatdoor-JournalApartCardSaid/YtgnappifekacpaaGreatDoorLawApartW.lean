/-
  What JournalApart answers: true.
-/
import Derived.Deep.RegionHeld3
import Derived.Deep.QuietTactic
import Derived.BigQuiet
import Derived.Test.YtgnappifekacpaaGreatDoorJApart
namespace Go.Proofs.YtgnappifekacpaaGreatDoor
open Go.RowKit Go.Shelf Go.Maps

set_option maxRecDepth 100000 in
set_option maxHeartbeats 16000000 in
theorem journalApart_walk (v0 : Value) (xs0 : List (List ByteArray)) (hn0 : xs0.length ≤ maxLen) (hz0 : ∀ l ∈ xs0, l.length ≤ maxLen ∧ ∀ x ∈ l, x.size ≤ maxLen) (v1 : Value) (xs1 : List (List ByteArray)) (hn1 : xs1.length ≤ maxLen) (hz1 : ∀ l ∈ xs1, l.length ≤ maxLen ∧ ∀ x ∈ l, x.size ≤ maxLen) (b2 : Bool) (w : World) (hr0 : ReadsLL w w.heap.size v0 xs0) (hr1 : ReadsLL w w.heap.size v1 xs1) :
    Calls Tryz.prog 6 #[v0, v1, .bool b2] w (LawPost w) := by
  have HSh := Lib.hid (shown_at w)
  have HT0 := Lib.hid (tiny_at hr0 hn0 hz0)
  have HT1 := Lib.hid (tiny_at hr1 hn1 hz1)
  have HBg := Lib.hid (begun_at 1048576 (by omega) (by omega) w)
  have hb0 : Below w.heap.size w w := Below.refl _ _
  cases ht0 : tinyB xs0 with
  | false =>
    rw [ht0] at HT0
    cases ht1 : tinyB xs1 with
    | false =>
      rw [ht1] at HT1
      clear hr0 hr1 hn0 hn1 hz0 hz1 ht0 ht1
      go_enter Tryz.func6, Tryz.ntmps6
      go_wp2_with (first
        | (go_at_call 8; refine (HSh.out _ hb0).mono ?_; rintro e w2 ⟨rfl, hb2⟩)
        | (go_at_call 29; with_reducible refine (HT0.out _ hb2).mono ?_; rintro e w3 ⟨rfl, rfl⟩)
        | (go_at_call 29; with_reducible refine (HT1.out _ hb2).mono ?_; rintro e w3 ⟨rfl, rfl⟩)
        | (go_at_call 10; refine (HBg.out _ hb2).mono ?_; rintro e w1 ⟨bt, bm, rfl, h0⟩))
      go_ret
      exact ⟨rfl, boxBack h0⟩
    | true =>
      rw [ht1] at HT1
      clear hr0 hr1 hn0 hn1 hz0 hz1 ht0 ht1
      go_enter Tryz.func6, Tryz.ntmps6
      go_wp2_with (first
        | (go_at_call 8; refine (HSh.out _ hb0).mono ?_; rintro e w2 ⟨rfl, hb2⟩)
        | (go_at_call 29; with_reducible refine (HT0.out _ hb2).mono ?_; rintro e w3 ⟨rfl, rfl⟩)
        | (go_at_call 29; with_reducible refine (HT1.out _ hb2).mono ?_; rintro e w3 ⟨rfl, rfl⟩)
        | (go_at_call 10; refine (HBg.out _ hb2).mono ?_; rintro e w1 ⟨bt, bm, rfl, h0⟩))
      go_ret
      exact ⟨rfl, boxBack h0⟩
  | true =>
    rw [ht0] at HT0
    cases ht1 : tinyB xs1 with
    | false =>
      rw [ht1] at HT1
      clear hr0 hr1 hn0 hn1 hz0 hz1 ht0 ht1
      go_enter Tryz.func6, Tryz.ntmps6
      go_wp2_with (first
        | (go_at_call 8; refine (HSh.out _ hb0).mono ?_; rintro e w2 ⟨rfl, hb2⟩)
        | (go_at_call 29; with_reducible refine (HT0.out _ hb2).mono ?_; rintro e w3 ⟨rfl, rfl⟩)
        | (go_at_call 29; with_reducible refine (HT1.out _ hb2).mono ?_; rintro e w3 ⟨rfl, rfl⟩)
        | (go_at_call 10; refine (HBg.out _ hb2).mono ?_; rintro e w1 ⟨bt, bm, rfl, h0⟩))
      go_ret
      exact ⟨rfl, boxBack h0⟩
    | true =>
      rw [ht1] at HT1
      obtain ⟨q0, q1, q2, q3⟩ := tiny_okb ht0
      obtain ⟨r0, r1, r2, r3⟩ := tiny_okb ht1
      have hxl0 : xs0.length ≤ 20 := (tiny_all ht0).1
      have hxl1 : xs1.length ≤ 20 := (tiny_all ht1).1
      clear hn0 hn1 hz0 hz1 ht0 ht1
      have HR0 := Lib.hid hr0
      have HR1 := Lib.hid hr1
      obtain ⟨o0, c0, rfl, _⟩ := hr0
      obtain ⟨o1, c1, rfl, _⟩ := hr1
      go_enter Tryz.func6, Tryz.ntmps6
      go_wp2_with (first
        | (go_at_call 8; refine (HSh.out _ hb0).mono ?_; rintro e w2 ⟨rfl, hb2⟩)
        | (go_at_call 29; with_reducible refine (HT0.out _ hb2).mono ?_; rintro e w3 ⟨rfl, rfl⟩)
        | (go_at_call 29; with_reducible refine (HT1.out _ hb2).mono ?_; rintro e w3 ⟨rfl, rfl⟩)
        | (go_at_call 10; refine (HBg.out _ hb2).mono ?_; rintro e w1 ⟨bt, bm, rfl, h0'⟩; have h0 := Box.bx h0'; have hm0 := bxAt h0; clear h0'))
      clear HSh HT0 HT1 HBg hb2
      obtain ⟨S0, hS0⟩ : ∃ S0 : St, S0 = (0, [], [], []) := ⟨_, rfl⟩
      rw [← hS0] at h0
      have g0 : Good 1048576 0 S0 := by rw [hS0]; exact Good.new (by omega) (by omega)
      have p0 : P4 S0 (rawLL []) (rawLL []) := by rw [hS0]; exact P4.new
      go_loopw [12, 13, 14] (fun xv yv iv wr => ∃ (k : Nat) (S : St) (W5 : World) (Z5 P Q : Nat → Prop) (fx fy : List (List ByteArray)) (ox : Option Addr) (cx : Nat) (oy : Option Addr) (cy : Nat), k ≤ 20 ∧ iv = .int .i64 k ∧ xv = .slice ox fx.length cx ∧ yv = .slice oy fy.length cy ∧ Good 1048576 (2 * k) S ∧ P4 S (rawLL fx) (rawLL fy) ∧ Bx w w1.heap.size bt bm W5 Z5 1048576 [(false, bt, S), (true, bm, S0)] wr ∧ RowIn w w1.heap.size W5 Z5 P (.slice ox fx.length cx) fx ∧ RowIn w w1.heap.size W5 Z5 Q (.slice oy fy.length cy) fy ∧ (∀ n, P n → ¬ Q n) ∧ fx.length ≤ k ∧ fy.length ≤ k) (fun _ _ iv _ => 20 - (intOf iv).toNat)
      case atStart => exact ⟨0, S0, _, _, _, _, [], [], none, 0, none, 0, Nat.zero_le _, rfl, rfl, rfl, g0, p0, h0, RowIn.nil _ _ _ _, RowIn.nil _ _ _ _, fun _ h => h.elim, Nat.le_refl _, Nat.le_refl _⟩
      case round =>
        obtain ⟨k, S, W5, Z5, P, Q, fx, fy, ox, cx, oy, cy, hk, rfl, rfl, rfl, hg, hp4, hcr, hRx, hRy, hdj, hfx, hfy⟩ := hrel
        have hm1 := bxAt hcr
        by_cases hlt0 : k < xs0.length
        · by_cases hlt1 : k < xs1.length
          · have hk20 : k < 20 := by omega
            obtain ⟨o0', c0', hv0, hx0'⟩ := HR0.out
            cases hv0
            obtain ⟨b0, f0, u0, hbo0, hbw0, hkc0, hcell0, uo0, uc0, rfl, hux0⟩ := hx0' k _ (List.getElem?_eq_getElem hlt0)
            cases hbo0
            have hkc0' : k < c0 := by omega
            have hxm0 := q1 xs0[k] (List.getElem_mem hlt0)
            have HU0 : Hid (∀ W, Below w.heap.size w W → ReadsO W W.heap.size (.slice uo0 xs0[k].length uc0) xs0[k]) := fun W hb => (show ReadsO w w.heap.size (.slice uo0 xs0[k].length uc0) xs0[k] from ⟨uo0, uc0, rfl, hux0⟩).below hb hb.size
            have HC0 : Hid (∀ W, Below w.heap.size w W → W.cell? ⟨b0, f0 + k, none⟩ = some (.slice uo0 xs0[k].length uc0)) := fun W h => (h.cell (p := ⟨b0, f0 + k, none⟩) hbw0).trans hcell0
            clear hx0' hux0 hcell0
            generalize xs0[k] = x0 at *
            obtain ⟨o1', c1', hv1, hx1'⟩ := HR1.out
            cases hv1
            obtain ⟨b1, f1, u1, hbo1, hbw1, hkc1, hcell1, uo1, uc1, rfl, hux1⟩ := hx1' k _ (List.getElem?_eq_getElem hlt1)
            cases hbo1
            have hkc1' : k < c1 := by omega
            have hxm1 := r1 xs1[k] (List.getElem_mem hlt1)
            have HU1 : Hid (∀ W, Below w.heap.size w W → ReadsO W W.heap.size (.slice uo1 xs1[k].length uc1) xs1[k]) := fun W hb => (show ReadsO w w.heap.size (.slice uo1 xs1[k].length uc1) xs1[k] from ⟨uo1, uc1, rfl, hux1⟩).below hb hb.size
            have HC1 : Hid (∀ W, Below w.heap.size w W → W.cell? ⟨b1, f1 + k, none⟩ = some (.slice uo1 xs1[k].length uc1)) := fun W h => (h.cell (p := ⟨b1, f1 + k, none⟩) hbw1).trans hcell1
            clear hx1' hux1 hcell1
            generalize xs1[k] = x1 at *
            obtain ⟨cd0, hcd0⟩ : ∃ cd, cd = (jAdd 1048576 S ONL (rawOf x0)).1 := ⟨_, rfl⟩
            obtain ⟨S_0, hS_0⟩ : ∃ S8, S8 = (jAdd 1048576 S ONL (rawOf x0)).2 := ⟨_, rfl⟩
            have g_0 : Good 1048576 (2 * k + 1) S_0 := by rw [hS_0]; exact hg.jAdd _ _
            have H_0 : Hid (∀ W, Bx w w1.heap.size bt bm W5 Z5 1048576 [(false, bt, S), (true, bm, S0)] W → Calls Tryz.prog 12 #[.pointer (some ⟨bt, 0, none⟩), .string ⟨#[111, 110, 101]⟩, .slice uo0 x0.length uc0] W fun r w' => r = .returned (.int .i64 cd0) ∧ Bx w w1.heap.size bt bm W5 Z5 1048576 [(false, bt, S_0), (true, bm, S0)] w') := fun W h => by
              have := h.jadd hg (by omega) ⟨#[111, 110, 101]⟩ (by decide) (.slice uo0 x0.length uc0) x0 (HU0.out W (bxBack h)) hxm0
              rw [show (⟨#[111, 110, 101]⟩ : ByteArray).data.toList = ONL from rfl, ← hcd0, ← hS_0] at this
              exact this
            have HB_0 : Hid (∀ l W, Bx w w1.heap.size bt bm W5 Z5 1048576 l W → W.cell? ⟨w1.heap.size, 0, none⟩ = some (.pointer (some ⟨bt, 0, none⟩)) ∧ W.cell? ⟨w1.heap.size, 1, none⟩ = some (.pointer (some ⟨bm, 0, none⟩)) ∧ W.cell? ⟨b0, f0 + k, none⟩ = some (.slice uo0 x0.length uc0)) := fun l W h => ⟨(bxAt h).1, (bxAt h).2, HC0.out W (bxBack h)⟩
            have hd_0 := Bx.below hcr (below_drew (Below.refl _ _))
            by_cases hz0 : cd0 = 0
            · have p4_0 := hp4.add1 hg (x := rawOf x0) (by rw [← hcd0]; exact hz0)
              rw [← hS_0, show rawLL fx ++ [rawOf x0] = rawLL (fx ++ [x0]) by simp [rawLL]] at p4_0
              have HP_0 : Hid (∀ W, Bx w w1.heap.size bt bm W5 Z5 1048576 [(false, bt, S_0), (true, bm, S0)] W → ∃ o' c' w10, (Builtin.append_ #[32, 32] 32 #[(.slice ox fx.length cx), .slice (some ⟨W.heap.size, 0, none⟩) 1 1]).run Tryz.prog (W.alloc (.cells #[.slice uo0 x0.length uc0] 37)) = .ok (.slice o' (fx.length + 1) c') w10 ∧
                  ∃ Z' P' Q', Bx w w1.heap.size bt bm w10 Z' 1048576 [(false, bt, S_0), (true, bm, S0)] w10 ∧ RowIn w w1.heap.size w10 Z' P' (.slice o' (fx.length + 1) c') (fx ++ [x0]) ∧ RowIn w w1.heap.size w10 Z' Q' (.slice oy fy.length cy) fy ∧ ∀ n, P' n → ¬ Q' n) := fun W h => by
                obtain ⟨o', c', w10, hrun, Z', P', q1, q2, q3⟩ := row_push h hRx (.slice uo0 x0.length uc0) rfl (HU0.out w (Below.refl _ _)) (by first | omega | (simp; omega))
                obtain ⟨Q', q4, q5⟩ := q3 _ _ _ hRy hdj
                exact ⟨o', c', w10, by first | exact hrun | simpa using hrun, Z', P', Q', q1, by first | exact q2 | simpa using q2, q4, q5⟩
              subst hz0
              clear hS_0 hcd0
              go_wp2
              go_region_held3 (fun W => W.cell? ⟨w1.heap.size, 0, none⟩ = some (.pointer (some ⟨bt, 0, none⟩)) ∧ W.cell? ⟨w1.heap.size, 1, none⟩ = some (.pointer (some ⟨bm, 0, none⟩)) ∧ W.cell? ⟨b0, f0 + k, none⟩ = some (.slice uo0 x0.length uc0))
                (first | exact HB_0.out _ _ (show Bx w w1.heap.size bt bm W5 Z5 1048576 _ _ by assumption))
                (first | (go_at_call 12; refine (H_0.out _ (by assumption)).mono ?_; rintro e w7_0 ⟨rfl, h7_0⟩))
              have hm7_0 := HB_0.out _ _ h7_0
              obtain ⟨o_0, c_0, w10_0, hrun_0, Z_0, P_0, Q_0, hb_0, hra_0, hrb_0, hdj_0⟩ := HP_0.out _ h7_0
              have hmm_0 := bxAt hb_0
              go_wp2_with (at_builtin; refine wpList_append_eq rfl _ _ 32 rfl (.slice ox fx.length cx) (.slice (some ⟨w7_0.heap.size, 0, none⟩) 1 1) (.slice o_0 (fx.length + 1) c_0) w10_0 rfl rfl hrun_0 ?_)
              obtain ⟨cd1, hcd1⟩ : ∃ cd, cd = (jAdd 1048576 S_0 TWL (rawOf x1)).1 := ⟨_, rfl⟩
              obtain ⟨S_1, hS_1⟩ : ∃ S8, S8 = (jAdd 1048576 S_0 TWL (rawOf x1)).2 := ⟨_, rfl⟩
              have g_1 : Good 1048576 ((2 * k + 1) + 1) S_1 := by rw [hS_1]; exact g_0.jAdd _ _
              have H_1 : Hid (∀ W, Bx w w1.heap.size bt bm w10_0 Z_0 1048576 [(false, bt, S_0), (true, bm, S0)] W → Calls Tryz.prog 12 #[.pointer (some ⟨bt, 0, none⟩), .string ⟨#[100, 47, 116, 119, 111]⟩, .slice uo1 x1.length uc1] W fun r w' => r = .returned (.int .i64 cd1) ∧ Bx w w1.heap.size bt bm w10_0 Z_0 1048576 [(false, bt, S_1), (true, bm, S0)] w') := fun W h => by
                have := h.jadd g_0 (by omega) ⟨#[100, 47, 116, 119, 111]⟩ (by decide) (.slice uo1 x1.length uc1) x1 (HU1.out W (bxBack h)) hxm1
                rw [show (⟨#[100, 47, 116, 119, 111]⟩ : ByteArray).data.toList = TWL from rfl, ← hcd1, ← hS_1] at this
                exact this
              have HB_1 : Hid (∀ l W, Bx w w1.heap.size bt bm w10_0 Z_0 1048576 l W → W.cell? ⟨w1.heap.size, 0, none⟩ = some (.pointer (some ⟨bt, 0, none⟩)) ∧ W.cell? ⟨w1.heap.size, 1, none⟩ = some (.pointer (some ⟨bm, 0, none⟩)) ∧ W.cell? ⟨b1, f1 + k, none⟩ = some (.slice uo1 x1.length uc1)) := fun l W h => ⟨(bxAt h).1, (bxAt h).2, HC1.out W (bxBack h)⟩
              have hd_1 := Bx.below hb_0 (below_drew (Below.refl _ _))
              by_cases hz1 : cd1 = 0
              · have p4_1 := p4_0.add2 g_0 (x := rawOf x1) (by rw [← hcd1]; exact hz1)
                rw [← hS_1, show rawLL fy ++ [rawOf x1] = rawLL (fy ++ [x1]) by simp [rawLL]] at p4_1
                have HP_1 : Hid (∀ W, Bx w w1.heap.size bt bm w10_0 Z_0 1048576 [(false, bt, S_1), (true, bm, S0)] W → ∃ o' c' w10, (Builtin.append_ #[32, 32] 32 #[(.slice oy fy.length cy), .slice (some ⟨W.heap.size, 0, none⟩) 1 1]).run Tryz.prog (W.alloc (.cells #[.slice uo1 x1.length uc1] 37)) = .ok (.slice o' (fy.length + 1) c') w10 ∧
                    ∃ Z' P' Q', Bx w w1.heap.size bt bm w10 Z' 1048576 [(false, bt, S_1), (true, bm, S0)] w10 ∧ RowIn w w1.heap.size w10 Z' P' (.slice o' (fy.length + 1) c') (fy ++ [x1]) ∧ RowIn w w1.heap.size w10 Z' Q' (.slice o_0 (fx.length + 1) c_0) (fx ++ [x0]) ∧ ∀ n, P' n → ¬ Q' n) := fun W h => by
                  obtain ⟨o', c', w10, hrun, Z', P', q1, q2, q3⟩ := row_push h hrb_0 (.slice uo1 x1.length uc1) rfl (HU1.out w (Below.refl _ _)) (by first | omega | (simp; omega))
                  obtain ⟨Q', q4, q5⟩ := q3 _ _ _ hra_0 (fun n h h' => hdj_0 n h' h)
                  exact ⟨o', c', w10, by first | exact hrun | simpa using hrun, Z', P', Q', q1, by first | exact q2 | simpa using q2, q4, q5⟩
                subst hz1
                clear hS_1 hcd1
                go_wp2
                go_region_held3 (fun W => W.cell? ⟨w1.heap.size, 0, none⟩ = some (.pointer (some ⟨bt, 0, none⟩)) ∧ W.cell? ⟨w1.heap.size, 1, none⟩ = some (.pointer (some ⟨bm, 0, none⟩)) ∧ W.cell? ⟨b1, f1 + k, none⟩ = some (.slice uo1 x1.length uc1))
                  (first | exact HB_1.out _ _ (show Bx w w1.heap.size bt bm w10_0 Z_0 1048576 _ _ by assumption))
                  (first | (go_at_call 12; refine (H_1.out _ (by assumption)).mono ?_; rintro e w7_1 ⟨rfl, h7_1⟩))
                have hm7_1 := HB_1.out _ _ h7_1
                obtain ⟨o_1, c_1, w10_1, hrun_1, Z_1, P_1, Q_1, hb_1, hra_1, hrb_1, hdj_1⟩ := HP_1.out _ h7_1
                have hmm_1 := bxAt hb_1
                go_wp2_with (at_builtin; refine wpList_append_eq rfl _ _ 32 rfl (.slice oy fy.length cy) (.slice (some ⟨w7_1.heap.size, 0, none⟩) 1 1) (.slice o_1 (fy.length + 1) c_1) w10_1 rfl rfl hrun_1 ?_)
                go_roundw
                case rel =>
                  exact ⟨k + 1, S_1, w10_1, Z_1, Q_1, P_1, (fx ++ [x0]), (fy ++ [x1]), o_0, c_0, o_1, c_1, by omega, by go_num, by first | rfl | simp, by first | rfl | simp, g_1.more (by omega), p4_1, hb_1, by first | exact hrb_1 | simpa using hrb_1, by first | exact hra_1 | simpa using hra_1, (fun n h h' => hdj_1 n h' h), by first | omega | (simp; omega), by first | omega | (simp; omega)⟩
                case measure => simp [intOf]; omega
              · have e0_1 : (cd1 == 0) = false := by simpa using hz1
                have hS9_1 : S_1 = S_0 := by rw [hS_1]; exact jAdd_err (by rw [← hcd1]; exact hz1)
                rw [hS9_1] at H_1
                clear hz1 hS9_1 hS_1 hcd1
                go_wp2
                go_region_held3 (fun W => W.cell? ⟨w1.heap.size, 0, none⟩ = some (.pointer (some ⟨bt, 0, none⟩)) ∧ W.cell? ⟨w1.heap.size, 1, none⟩ = some (.pointer (some ⟨bm, 0, none⟩)) ∧ W.cell? ⟨b1, f1 + k, none⟩ = some (.slice uo1 x1.length uc1))
                  (first | exact HB_1.out _ _ (show Bx w w1.heap.size bt bm w10_0 Z_0 1048576 _ _ by assumption))
                  (first | (go_at_call 12; refine (H_1.out _ (by assumption)).mono ?_; rintro e w7_1 ⟨rfl, h7_1⟩))
                have hm7_1 := HB_1.out _ _ h7_1
                go_wp2
                go_roundw
                case rel =>
                  exact ⟨k + 1, S_0, w10_0, Z_0, P_0, Q_0, (fx ++ [x0]), fy, o_0, c_0, oy, cy, by omega, by go_num, by first | rfl | simp, by first | rfl | simp, g_0.more (by omega), p4_0, h7_1, by first | exact hra_0 | simpa using hra_0, by first | exact hrb_0 | simpa using hrb_0, hdj_0, by first | omega | (simp; omega), by first | omega | (simp; omega)⟩
                case measure => simp [intOf]; omega
            · have e0_0 : (cd0 == 0) = false := by simpa using hz0
              have hS9_0 : S_0 = S := by rw [hS_0]; exact jAdd_err (by rw [← hcd0]; exact hz0)
              rw [hS9_0] at H_0
              clear hz0 hS9_0 hS_0 hcd0
              go_wp2
              go_region_held3 (fun W => W.cell? ⟨w1.heap.size, 0, none⟩ = some (.pointer (some ⟨bt, 0, none⟩)) ∧ W.cell? ⟨w1.heap.size, 1, none⟩ = some (.pointer (some ⟨bm, 0, none⟩)) ∧ W.cell? ⟨b0, f0 + k, none⟩ = some (.slice uo0 x0.length uc0))
                (first | exact HB_0.out _ _ (show Bx w w1.heap.size bt bm W5 Z5 1048576 _ _ by assumption))
                (first | (go_at_call 12; refine (H_0.out _ (by assumption)).mono ?_; rintro e w7_0 ⟨rfl, h7_0⟩))
              have hm7_0 := HB_0.out _ _ h7_0
              go_wp2
              obtain ⟨cd1, hcd1⟩ : ∃ cd, cd = (jAdd 1048576 S TWL (rawOf x1)).1 := ⟨_, rfl⟩
              obtain ⟨S_1, hS_1⟩ : ∃ S8, S8 = (jAdd 1048576 S TWL (rawOf x1)).2 := ⟨_, rfl⟩
              have g_1 : Good 1048576 (2 * k + 1) S_1 := by rw [hS_1]; exact hg.jAdd _ _
              have H_1 : Hid (∀ W, Bx w w1.heap.size bt bm W5 Z5 1048576 [(false, bt, S), (true, bm, S0)] W → Calls Tryz.prog 12 #[.pointer (some ⟨bt, 0, none⟩), .string ⟨#[100, 47, 116, 119, 111]⟩, .slice uo1 x1.length uc1] W fun r w' => r = .returned (.int .i64 cd1) ∧ Bx w w1.heap.size bt bm W5 Z5 1048576 [(false, bt, S_1), (true, bm, S0)] w') := fun W h => by
                have := h.jadd hg (by omega) ⟨#[100, 47, 116, 119, 111]⟩ (by decide) (.slice uo1 x1.length uc1) x1 (HU1.out W (bxBack h)) hxm1
                rw [show (⟨#[100, 47, 116, 119, 111]⟩ : ByteArray).data.toList = TWL from rfl, ← hcd1, ← hS_1] at this
                exact this
              have HB_1 : Hid (∀ l W, Bx w w1.heap.size bt bm W5 Z5 1048576 l W → W.cell? ⟨w1.heap.size, 0, none⟩ = some (.pointer (some ⟨bt, 0, none⟩)) ∧ W.cell? ⟨w1.heap.size, 1, none⟩ = some (.pointer (some ⟨bm, 0, none⟩)) ∧ W.cell? ⟨b1, f1 + k, none⟩ = some (.slice uo1 x1.length uc1)) := fun l W h => ⟨(bxAt h).1, (bxAt h).2, HC1.out W (bxBack h)⟩
              have hd_1 := Bx.below h7_0 (below_drew (Below.refl _ _))
              by_cases hz1 : cd1 = 0
              · have p4_1 := hp4.add2 hg (x := rawOf x1) (by rw [← hcd1]; exact hz1)
                rw [← hS_1, show rawLL fy ++ [rawOf x1] = rawLL (fy ++ [x1]) by simp [rawLL]] at p4_1
                have HP_1 : Hid (∀ W, Bx w w1.heap.size bt bm W5 Z5 1048576 [(false, bt, S_1), (true, bm, S0)] W → ∃ o' c' w10, (Builtin.append_ #[32, 32] 32 #[(.slice oy fy.length cy), .slice (some ⟨W.heap.size, 0, none⟩) 1 1]).run Tryz.prog (W.alloc (.cells #[.slice uo1 x1.length uc1] 37)) = .ok (.slice o' (fy.length + 1) c') w10 ∧
                    ∃ Z' P' Q', Bx w w1.heap.size bt bm w10 Z' 1048576 [(false, bt, S_1), (true, bm, S0)] w10 ∧ RowIn w w1.heap.size w10 Z' P' (.slice o' (fy.length + 1) c') (fy ++ [x1]) ∧ RowIn w w1.heap.size w10 Z' Q' (.slice ox fx.length cx) fx ∧ ∀ n, P' n → ¬ Q' n) := fun W h => by
                  obtain ⟨o', c', w10, hrun, Z', P', q1, q2, q3⟩ := row_push h hRy (.slice uo1 x1.length uc1) rfl (HU1.out w (Below.refl _ _)) (by first | omega | (simp; omega))
                  obtain ⟨Q', q4, q5⟩ := q3 _ _ _ hRx (fun n h h' => hdj n h' h)
                  exact ⟨o', c', w10, by first | exact hrun | simpa using hrun, Z', P', Q', q1, by first | exact q2 | simpa using q2, q4, q5⟩
                subst hz1
                clear hS_1 hcd1
                go_wp2
                go_region_held3 (fun W => W.cell? ⟨w1.heap.size, 0, none⟩ = some (.pointer (some ⟨bt, 0, none⟩)) ∧ W.cell? ⟨w1.heap.size, 1, none⟩ = some (.pointer (some ⟨bm, 0, none⟩)) ∧ W.cell? ⟨b1, f1 + k, none⟩ = some (.slice uo1 x1.length uc1))
                  (first | exact HB_1.out _ _ (show Bx w w1.heap.size bt bm W5 Z5 1048576 _ _ by assumption))
                  (first | (go_at_call 12; refine (H_1.out _ (by assumption)).mono ?_; rintro e w7_1 ⟨rfl, h7_1⟩))
                have hm7_1 := HB_1.out _ _ h7_1
                obtain ⟨o_1, c_1, w10_1, hrun_1, Z_1, P_1, Q_1, hb_1, hra_1, hrb_1, hdj_1⟩ := HP_1.out _ h7_1
                have hmm_1 := bxAt hb_1
                go_wp2_with (at_builtin; refine wpList_append_eq rfl _ _ 32 rfl (.slice oy fy.length cy) (.slice (some ⟨w7_1.heap.size, 0, none⟩) 1 1) (.slice o_1 (fy.length + 1) c_1) w10_1 rfl rfl hrun_1 ?_)
                go_roundw
                case rel =>
                  exact ⟨k + 1, S_1, w10_1, Z_1, Q_1, P_1, fx, (fy ++ [x1]), ox, cx, o_1, c_1, by omega, by go_num, by first | rfl | simp, by first | rfl | simp, g_1.more (by omega), p4_1, hb_1, by first | exact hrb_1 | simpa using hrb_1, by first | exact hra_1 | simpa using hra_1, (fun n h h' => hdj_1 n h' h), by first | omega | (simp; omega), by first | omega | (simp; omega)⟩
                case measure => simp [intOf]; omega
              · have e0_1 : (cd1 == 0) = false := by simpa using hz1
                have hS9_1 : S_1 = S := by rw [hS_1]; exact jAdd_err (by rw [← hcd1]; exact hz1)
                rw [hS9_1] at H_1
                clear hz1 hS9_1 hS_1 hcd1
                go_wp2
                go_region_held3 (fun W => W.cell? ⟨w1.heap.size, 0, none⟩ = some (.pointer (some ⟨bt, 0, none⟩)) ∧ W.cell? ⟨w1.heap.size, 1, none⟩ = some (.pointer (some ⟨bm, 0, none⟩)) ∧ W.cell? ⟨b1, f1 + k, none⟩ = some (.slice uo1 x1.length uc1))
                  (first | exact HB_1.out _ _ (show Bx w w1.heap.size bt bm W5 Z5 1048576 _ _ by assumption))
                  (first | (go_at_call 12; refine (H_1.out _ (by assumption)).mono ?_; rintro e w7_1 ⟨rfl, h7_1⟩))
                have hm7_1 := HB_1.out _ _ h7_1
                go_wp2
                go_roundw
                case rel =>
                  exact ⟨k + 1, S, W5, Z5, P, Q, fx, fy, ox, cx, oy, cy, by omega, by go_num, by first | rfl | simp, by first | rfl | simp, hg.more (by omega), hp4, h7_1, by first | exact hRx | simpa using hRx, by first | exact hRy | simpa using hRy, hdj, by first | omega | (simp; omega), by first | omega | (simp; omega)⟩
                case measure => simp [intOf]; omega
          · have hk20 : k < 20 := by omega
            obtain ⟨o0', c0', hv0, hx0'⟩ := HR0.out
            cases hv0
            obtain ⟨b0, f0, u0, hbo0, hbw0, hkc0, hcell0, uo0, uc0, rfl, hux0⟩ := hx0' k _ (List.getElem?_eq_getElem hlt0)
            cases hbo0
            have hkc0' : k < c0 := by omega
            have hxm0 := q1 xs0[k] (List.getElem_mem hlt0)
            have HU0 : Hid (∀ W, Below w.heap.size w W → ReadsO W W.heap.size (.slice uo0 xs0[k].length uc0) xs0[k]) := fun W hb => (show ReadsO w w.heap.size (.slice uo0 xs0[k].length uc0) xs0[k] from ⟨uo0, uc0, rfl, hux0⟩).below hb hb.size
            have HC0 : Hid (∀ W, Below w.heap.size w W → W.cell? ⟨b0, f0 + k, none⟩ = some (.slice uo0 xs0[k].length uc0)) := fun W h => (h.cell (p := ⟨b0, f0 + k, none⟩) hbw0).trans hcell0
            clear hx0' hux0 hcell0
            generalize xs0[k] = x0 at *
            have d1 : decide ((k : Int) < (xs1.length : Int)) = false := by simp; omega
            obtain ⟨cd0, hcd0⟩ : ∃ cd, cd = (jAdd 1048576 S ONL (rawOf x0)).1 := ⟨_, rfl⟩
            obtain ⟨S_0, hS_0⟩ : ∃ S8, S8 = (jAdd 1048576 S ONL (rawOf x0)).2 := ⟨_, rfl⟩
            have g_0 : Good 1048576 (2 * k + 1) S_0 := by rw [hS_0]; exact hg.jAdd _ _
            have H_0 : Hid (∀ W, Bx w w1.heap.size bt bm W5 Z5 1048576 [(false, bt, S), (true, bm, S0)] W → Calls Tryz.prog 12 #[.pointer (some ⟨bt, 0, none⟩), .string ⟨#[111, 110, 101]⟩, .slice uo0 x0.length uc0] W fun r w' => r = .returned (.int .i64 cd0) ∧ Bx w w1.heap.size bt bm W5 Z5 1048576 [(false, bt, S_0), (true, bm, S0)] w') := fun W h => by
              have := h.jadd hg (by omega) ⟨#[111, 110, 101]⟩ (by decide) (.slice uo0 x0.length uc0) x0 (HU0.out W (bxBack h)) hxm0
              rw [show (⟨#[111, 110, 101]⟩ : ByteArray).data.toList = ONL from rfl, ← hcd0, ← hS_0] at this
              exact this
            have HB_0 : Hid (∀ l W, Bx w w1.heap.size bt bm W5 Z5 1048576 l W → W.cell? ⟨w1.heap.size, 0, none⟩ = some (.pointer (some ⟨bt, 0, none⟩)) ∧ W.cell? ⟨w1.heap.size, 1, none⟩ = some (.pointer (some ⟨bm, 0, none⟩)) ∧ W.cell? ⟨b0, f0 + k, none⟩ = some (.slice uo0 x0.length uc0)) := fun l W h => ⟨(bxAt h).1, (bxAt h).2, HC0.out W (bxBack h)⟩
            have hd_0 := Bx.below hcr (below_drew (Below.refl _ _))
            by_cases hz0 : cd0 = 0
            · have p4_0 := hp4.add1 hg (x := rawOf x0) (by rw [← hcd0]; exact hz0)
              rw [← hS_0, show rawLL fx ++ [rawOf x0] = rawLL (fx ++ [x0]) by simp [rawLL]] at p4_0
              have HP_0 : Hid (∀ W, Bx w w1.heap.size bt bm W5 Z5 1048576 [(false, bt, S_0), (true, bm, S0)] W → ∃ o' c' w10, (Builtin.append_ #[32, 32] 32 #[(.slice ox fx.length cx), .slice (some ⟨W.heap.size, 0, none⟩) 1 1]).run Tryz.prog (W.alloc (.cells #[.slice uo0 x0.length uc0] 37)) = .ok (.slice o' (fx.length + 1) c') w10 ∧
                  ∃ Z' P' Q', Bx w w1.heap.size bt bm w10 Z' 1048576 [(false, bt, S_0), (true, bm, S0)] w10 ∧ RowIn w w1.heap.size w10 Z' P' (.slice o' (fx.length + 1) c') (fx ++ [x0]) ∧ RowIn w w1.heap.size w10 Z' Q' (.slice oy fy.length cy) fy ∧ ∀ n, P' n → ¬ Q' n) := fun W h => by
                obtain ⟨o', c', w10, hrun, Z', P', q1, q2, q3⟩ := row_push h hRx (.slice uo0 x0.length uc0) rfl (HU0.out w (Below.refl _ _)) (by first | omega | (simp; omega))
                obtain ⟨Q', q4, q5⟩ := q3 _ _ _ hRy hdj
                exact ⟨o', c', w10, by first | exact hrun | simpa using hrun, Z', P', Q', q1, by first | exact q2 | simpa using q2, q4, q5⟩
              subst hz0
              clear hS_0 hcd0
              go_wp2
              go_region_held3 (fun W => W.cell? ⟨w1.heap.size, 0, none⟩ = some (.pointer (some ⟨bt, 0, none⟩)) ∧ W.cell? ⟨w1.heap.size, 1, none⟩ = some (.pointer (some ⟨bm, 0, none⟩)) ∧ W.cell? ⟨b0, f0 + k, none⟩ = some (.slice uo0 x0.length uc0))
                (first | exact HB_0.out _ _ (show Bx w w1.heap.size bt bm W5 Z5 1048576 _ _ by assumption))
                (first | (go_at_call 12; refine (H_0.out _ (by assumption)).mono ?_; rintro e w7_0 ⟨rfl, h7_0⟩))
              have hm7_0 := HB_0.out _ _ h7_0
              obtain ⟨o_0, c_0, w10_0, hrun_0, Z_0, P_0, Q_0, hb_0, hra_0, hrb_0, hdj_0⟩ := HP_0.out _ h7_0
              have hmm_0 := bxAt hb_0
              go_wp2_with (at_builtin; refine wpList_append_eq rfl _ _ 32 rfl (.slice ox fx.length cx) (.slice (some ⟨w7_0.heap.size, 0, none⟩) 1 1) (.slice o_0 (fx.length + 1) c_0) w10_0 rfl rfl hrun_0 ?_)
              go_wp2
              go_quiet (fail)
              have hq_1 := Bx.below hb_0 (below_drewN (Below.refl _ _) nq)
              have hmq_1 := bxAt hq_1
              generalize World.drewN _ nq = wq_1 at hq_1 hmq_1 ⊢
              go_wp2
              go_roundw
              case rel =>
                exact ⟨k + 1, S_0, w10_0, Z_0, P_0, Q_0, (fx ++ [x0]), fy, o_0, c_0, oy, cy, by omega, by go_num, by first | rfl | simp, by first | rfl | simp, g_0.more (by omega), p4_0, hq_1, by first | exact hra_0 | simpa using hra_0, by first | exact hrb_0 | simpa using hrb_0, hdj_0, by first | omega | (simp; omega), by first | omega | (simp; omega)⟩
              case measure => simp [intOf]; omega
            · have e0_0 : (cd0 == 0) = false := by simpa using hz0
              have hS9_0 : S_0 = S := by rw [hS_0]; exact jAdd_err (by rw [← hcd0]; exact hz0)
              rw [hS9_0] at H_0
              clear hz0 hS9_0 hS_0 hcd0
              go_wp2
              go_region_held3 (fun W => W.cell? ⟨w1.heap.size, 0, none⟩ = some (.pointer (some ⟨bt, 0, none⟩)) ∧ W.cell? ⟨w1.heap.size, 1, none⟩ = some (.pointer (some ⟨bm, 0, none⟩)) ∧ W.cell? ⟨b0, f0 + k, none⟩ = some (.slice uo0 x0.length uc0))
                (first | exact HB_0.out _ _ (show Bx w w1.heap.size bt bm W5 Z5 1048576 _ _ by assumption))
                (first | (go_at_call 12; refine (H_0.out _ (by assumption)).mono ?_; rintro e w7_0 ⟨rfl, h7_0⟩))
              have hm7_0 := HB_0.out _ _ h7_0
              go_wp2
              go_wp2
              go_quiet (fail)
              have hq_1 := Bx.below h7_0 (below_drewN (Below.refl _ _) nq)
              have hmq_1 := bxAt hq_1
              generalize World.drewN _ nq = wq_1 at hq_1 hmq_1 ⊢
              go_wp2
              go_roundw
              case rel =>
                exact ⟨k + 1, S, W5, Z5, P, Q, fx, fy, ox, cx, oy, cy, by omega, by go_num, by first | rfl | simp, by first | rfl | simp, hg.more (by omega), hp4, hq_1, by first | exact hRx | simpa using hRx, by first | exact hRy | simpa using hRy, hdj, by first | omega | (simp; omega), by first | omega | (simp; omega)⟩
              case measure => simp [intOf]; omega
        · by_cases hlt1 : k < xs1.length
          · have hk20 : k < 20 := by omega
            have d0 : decide ((k : Int) < (xs0.length : Int)) = false := by simp; omega
            obtain ⟨o1', c1', hv1, hx1'⟩ := HR1.out
            cases hv1
            obtain ⟨b1, f1, u1, hbo1, hbw1, hkc1, hcell1, uo1, uc1, rfl, hux1⟩ := hx1' k _ (List.getElem?_eq_getElem hlt1)
            cases hbo1
            have hkc1' : k < c1 := by omega
            have hxm1 := r1 xs1[k] (List.getElem_mem hlt1)
            have HU1 : Hid (∀ W, Below w.heap.size w W → ReadsO W W.heap.size (.slice uo1 xs1[k].length uc1) xs1[k]) := fun W hb => (show ReadsO w w.heap.size (.slice uo1 xs1[k].length uc1) xs1[k] from ⟨uo1, uc1, rfl, hux1⟩).below hb hb.size
            have HC1 : Hid (∀ W, Below w.heap.size w W → W.cell? ⟨b1, f1 + k, none⟩ = some (.slice uo1 xs1[k].length uc1)) := fun W h => (h.cell (p := ⟨b1, f1 + k, none⟩) hbw1).trans hcell1
            clear hx1' hux1 hcell1
            generalize xs1[k] = x1 at *
            go_wp2
            go_quiet (fail)
            have hq_0 := Bx.below hcr (below_drewN (Below.refl _ _) nq)
            have hmq_0 := bxAt hq_0
            generalize World.drewN _ nq = wq_0 at hq_0 hmq_0 ⊢
            obtain ⟨cd1, hcd1⟩ : ∃ cd, cd = (jAdd 1048576 S TWL (rawOf x1)).1 := ⟨_, rfl⟩
            obtain ⟨S_1, hS_1⟩ : ∃ S8, S8 = (jAdd 1048576 S TWL (rawOf x1)).2 := ⟨_, rfl⟩
            have g_1 : Good 1048576 (2 * k + 1) S_1 := by rw [hS_1]; exact hg.jAdd _ _
            have H_1 : Hid (∀ W, Bx w w1.heap.size bt bm W5 Z5 1048576 [(false, bt, S), (true, bm, S0)] W → Calls Tryz.prog 12 #[.pointer (some ⟨bt, 0, none⟩), .string ⟨#[100, 47, 116, 119, 111]⟩, .slice uo1 x1.length uc1] W fun r w' => r = .returned (.int .i64 cd1) ∧ Bx w w1.heap.size bt bm W5 Z5 1048576 [(false, bt, S_1), (true, bm, S0)] w') := fun W h => by
              have := h.jadd hg (by omega) ⟨#[100, 47, 116, 119, 111]⟩ (by decide) (.slice uo1 x1.length uc1) x1 (HU1.out W (bxBack h)) hxm1
              rw [show (⟨#[100, 47, 116, 119, 111]⟩ : ByteArray).data.toList = TWL from rfl, ← hcd1, ← hS_1] at this
              exact this
            have HB_1 : Hid (∀ l W, Bx w w1.heap.size bt bm W5 Z5 1048576 l W → W.cell? ⟨w1.heap.size, 0, none⟩ = some (.pointer (some ⟨bt, 0, none⟩)) ∧ W.cell? ⟨w1.heap.size, 1, none⟩ = some (.pointer (some ⟨bm, 0, none⟩)) ∧ W.cell? ⟨b1, f1 + k, none⟩ = some (.slice uo1 x1.length uc1)) := fun l W h => ⟨(bxAt h).1, (bxAt h).2, HC1.out W (bxBack h)⟩
            have hd_1 := Bx.below hq_0 (below_drew (Below.refl _ _))
            by_cases hz1 : cd1 = 0
            · have p4_1 := hp4.add2 hg (x := rawOf x1) (by rw [← hcd1]; exact hz1)
              rw [← hS_1, show rawLL fy ++ [rawOf x1] = rawLL (fy ++ [x1]) by simp [rawLL]] at p4_1
              have HP_1 : Hid (∀ W, Bx w w1.heap.size bt bm W5 Z5 1048576 [(false, bt, S_1), (true, bm, S0)] W → ∃ o' c' w10, (Builtin.append_ #[32, 32] 32 #[(.slice oy fy.length cy), .slice (some ⟨W.heap.size, 0, none⟩) 1 1]).run Tryz.prog (W.alloc (.cells #[.slice uo1 x1.length uc1] 37)) = .ok (.slice o' (fy.length + 1) c') w10 ∧
                  ∃ Z' P' Q', Bx w w1.heap.size bt bm w10 Z' 1048576 [(false, bt, S_1), (true, bm, S0)] w10 ∧ RowIn w w1.heap.size w10 Z' P' (.slice o' (fy.length + 1) c') (fy ++ [x1]) ∧ RowIn w w1.heap.size w10 Z' Q' (.slice ox fx.length cx) fx ∧ ∀ n, P' n → ¬ Q' n) := fun W h => by
                obtain ⟨o', c', w10, hrun, Z', P', q1, q2, q3⟩ := row_push h hRy (.slice uo1 x1.length uc1) rfl (HU1.out w (Below.refl _ _)) (by first | omega | (simp; omega))
                obtain ⟨Q', q4, q5⟩ := q3 _ _ _ hRx (fun n h h' => hdj n h' h)
                exact ⟨o', c', w10, by first | exact hrun | simpa using hrun, Z', P', Q', q1, by first | exact q2 | simpa using q2, q4, q5⟩
              subst hz1
              clear hS_1 hcd1
              go_wp2
              go_region_held3 (fun W => W.cell? ⟨w1.heap.size, 0, none⟩ = some (.pointer (some ⟨bt, 0, none⟩)) ∧ W.cell? ⟨w1.heap.size, 1, none⟩ = some (.pointer (some ⟨bm, 0, none⟩)) ∧ W.cell? ⟨b1, f1 + k, none⟩ = some (.slice uo1 x1.length uc1))
                (first | exact HB_1.out _ _ (show Bx w w1.heap.size bt bm W5 Z5 1048576 _ _ by assumption))
                (first | (go_at_call 12; refine (H_1.out _ (by assumption)).mono ?_; rintro e w7_1 ⟨rfl, h7_1⟩))
              have hm7_1 := HB_1.out _ _ h7_1
              obtain ⟨o_1, c_1, w10_1, hrun_1, Z_1, P_1, Q_1, hb_1, hra_1, hrb_1, hdj_1⟩ := HP_1.out _ h7_1
              have hmm_1 := bxAt hb_1
              go_wp2_with (at_builtin; refine wpList_append_eq rfl _ _ 32 rfl (.slice oy fy.length cy) (.slice (some ⟨w7_1.heap.size, 0, none⟩) 1 1) (.slice o_1 (fy.length + 1) c_1) w10_1 rfl rfl hrun_1 ?_)
              go_roundw
              case rel =>
                exact ⟨k + 1, S_1, w10_1, Z_1, Q_1, P_1, fx, (fy ++ [x1]), ox, cx, o_1, c_1, by omega, by go_num, by first | rfl | simp, by first | rfl | simp, g_1.more (by omega), p4_1, hb_1, by first | exact hrb_1 | simpa using hrb_1, by first | exact hra_1 | simpa using hra_1, (fun n h h' => hdj_1 n h' h), by first | omega | (simp; omega), by first | omega | (simp; omega)⟩
              case measure => simp [intOf]; omega
            · have e0_1 : (cd1 == 0) = false := by simpa using hz1
              have hS9_1 : S_1 = S := by rw [hS_1]; exact jAdd_err (by rw [← hcd1]; exact hz1)
              rw [hS9_1] at H_1
              clear hz1 hS9_1 hS_1 hcd1
              go_wp2
              go_region_held3 (fun W => W.cell? ⟨w1.heap.size, 0, none⟩ = some (.pointer (some ⟨bt, 0, none⟩)) ∧ W.cell? ⟨w1.heap.size, 1, none⟩ = some (.pointer (some ⟨bm, 0, none⟩)) ∧ W.cell? ⟨b1, f1 + k, none⟩ = some (.slice uo1 x1.length uc1))
                (first | exact HB_1.out _ _ (show Bx w w1.heap.size bt bm W5 Z5 1048576 _ _ by assumption))
                (first | (go_at_call 12; refine (H_1.out _ (by assumption)).mono ?_; rintro e w7_1 ⟨rfl, h7_1⟩))
              have hm7_1 := HB_1.out _ _ h7_1
              go_wp2
              go_roundw
              case rel =>
                exact ⟨k + 1, S, W5, Z5, P, Q, fx, fy, ox, cx, oy, cy, by omega, by go_num, by first | rfl | simp, by first | rfl | simp, hg.more (by omega), hp4, h7_1, by first | exact hRx | simpa using hRx, by first | exact hRy | simpa using hRy, hdj, by first | omega | (simp; omega), by first | omega | (simp; omega)⟩
              case measure => simp [intOf]; omega
          · have d0 : decide ((k : Int) < (xs0.length : Int)) = false := by simp; omega
            have d1 : decide ((k : Int) < (xs1.length : Int)) = false := by simp; omega
            have hl0 : (rawLL fx).length = fx.length := by simp [rawLL]
            have hl1 : (rawLL fy).length = fy.length := by simp [rawLL]
            have hfx2 : fx.length ≤ 20 := by omega
            have hfy2 : fy.length ≤ 20 := by omega
            have okx : fx.length ≤ maxLen ∧ ∀ xs ∈ fx, xs.length ≤ maxLen ∧ ∀ x ∈ xs, x.size ≤ 1000000 := by
              have := fits_ok hp4.f1
              rw [txt_raw] at this
              exact ⟨by unfold maxLen; omega, this⟩
            have oky : fy.length ≤ maxLen ∧ ∀ xs ∈ fy, xs.length ≤ maxLen := by
              have := fits_ok hp4.f2
              rw [txt_raw] at this
              exact ⟨by unfold maxLen; omega, fun xs hx => (this xs hx).1⟩
            have mkx := fun xs hx => (okx.2 xs hx).1
            obtain ⟨S1, hS1⟩ : ∃ S1, S1 = (jAnew 1048576 S ONL (rawLL fx)).2 := ⟨_, rfl⟩
            obtain ⟨a1, a2⟩ := hp4.anew hg (by omega) (by omega)
            rw [← hS1] at a2
            have g1 : Good 1048576 (2 * k + 3) S1 := by rw [hS1]; exact hg.jAnew _ _
            have AN : Hid (∀ W, Bx w w1.heap.size bt bm W5 Z5 1048576 [(false, bt, S), (true, bm, S0)] W → Calls Tryz.prog 18 #[.pointer (some ⟨bt, 0, none⟩), .string ⟨#[111, 110, 101]⟩, .slice ox fx.length cx] W fun r w' => r = .returned (.int .i64 0) ∧ Bx w w1.heap.size bt bm W5 Z5 1048576 [(false, bt, S1), (true, bm, S0)] w') := fun W h => by
              have hr := hRx.reads h rfl fx.length (Nat.le_refl _)
              rw [List.take_length] at hr
              have := h.janew hg (by omega) ⟨#[111, 110, 101]⟩ (by decide) (.slice ox fx.length cx) fx hr okx.1 okx.2 (mod_few (by omega))
              rw [show (⟨#[111, 110, 101]⟩ : ByteArray).data.toList = ONL from rfl, a1, ← hS1] at this
              exact this
            have MAIN : ∀ (S : St) (n : Nat), Good 1048576 n S → n ≤ 1000 → P4 S (rawLL fx) (rawLL fy) → Hid (∃ S2 : St, (∀ W, Bx w w1.heap.size bt bm W5 Z5 1048576 [(false, bt, S), (true, bm, S0)] W → Calls Tryz.prog 15 #[.pointer (some ⟨bt, 0, none⟩), .string ⟨#[100, 47, 116, 119, 111]⟩] W fun r w' => ∃ o c W6 Z6, r = .returned (.tuple #[.slice o fy.length c, .int .i64 0]) ∧ Bx w w1.heap.size bt bm W6 Z6 1048576 [(false, bt, S2), (true, bm, S0)] w' ∧ ReadsFF (fun n => ¬ Z6 n) W6 (.slice o fy.length c) fy ∧ RowIn w w1.heap.size W6 Z6 P (.slice ox fx.length cx) fx ∧ RowIn w w1.heap.size W6 Z6 Q (.slice oy fy.length cy) fy) ∧
                ∀ W6 Z6 W o c, Bx w w1.heap.size bt bm W6 Z6 1048576 [(false, bt, S2), (true, bm, S0)] W → ReadsFF (fun n => ¬ Z6 n) W6 (.slice o fy.length c) fy → RowIn w w1.heap.size W6 Z6 P (.slice ox fx.length cx) fx → RowIn w w1.heap.size W6 Z6 Q (.slice oy fy.length cy) fy → Calls Tryz.prog 15 #[.pointer (some ⟨bt, 0, none⟩), .string ⟨#[111, 110, 101]⟩] W fun r w' => ∃ o2 c2, r = .returned (.tuple #[.slice o2 fx.length c2, .int .i64 0]) ∧ Below w.heap.size w w' ∧ (∀ W, Below w'.heap.size w' W → Calls Tryz.prog 17 #[.slice o fy.length c, .slice oy fy.length cy] W fun e W' => e = .returned (.bool true) ∧ Below w'.heap.size w' W') ∧ ∀ W, Below w'.heap.size w' W → Calls Tryz.prog 17 #[.slice o2 fx.length c2, .slice ox fx.length cx] W fun e W' => e = .returned (.bool true) ∧ Below w'.heap.size w' W') := by
              intro S n hg hn hp
              obtain ⟨b1, b2, b3, b4⟩ := hp.open2 hg (by omega) (by omega)
              have g2 := hg.jOpen TWL
              obtain ⟨b5, b6, b7⟩ := b3.open1 g2 (by omega) (by omega)
              refine ⟨(jOpen 1048576 S TWL).2.2, fun W h => ?_, fun W6 Z6 W o c h hy hx6 hy6 => ?_⟩
              · refine (Bx.jopen h hg (by omega) ⟨#[100, 47, 116, 119, 111]⟩ (by decide) b4).mono fun r w' k => ?_
                obtain ⟨o, c, W6, Z6, k1, k2, k3, k4, k5⟩ := k
                rw [show (⟨#[100, 47, 116, 119, 111]⟩ : ByteArray).data.toList = TWL from rfl] at k1 k2 k3
                rw [b1, b2, hl1] at k1
                rw [b1, txt_raw, hl1] at k2
                exact ⟨o, c, W6, Z6, k1, k3, k2, hRx.rebox k4 k5, hRy.rebox k4 k5⟩
              · refine (Bx.jopen h g2 (by omega) ⟨#[111, 110, 101]⟩ (by decide) b7).mono fun r w' k => ?_
                obtain ⟨o2, c2, W7, Z7, k1, k2, k3, k4, k5⟩ := k
                rw [show (⟨#[111, 110, 101]⟩ : ByteArray).data.toList = ONL from rfl] at k1 k2 k3
                rw [b5, b6, hl0] at k1
                rw [b5, txt_raw, hl0] at k2
                have rx := (hx6.rebox k4 k5).reads k3 rfl fx.length (Nat.le_refl _)
                have ry := (hy6.rebox k4 k5).reads k3 rfl fy.length (Nat.le_refl _)
                rw [List.take_length] at rx ry
                exact ⟨o2, c2, k1, bxBack k3, same_at (ReadsFF.reads (Bx.reads k3 (ReadsFF.rebox hy k4 k5))) ry oky.1 oky.2 (decide_eq_true rfl), same_at (ReadsFF.reads (Bx.reads k3 k2)) rx okx.1 mkx (decide_eq_true rfl)⟩
            cases b2 with
            | true =>
              have HMN := MAIN S1 _ g1 (by omega) a2
              clear MAIN a1 a2 g1 hS1 okx oky mkx hl0 hl1 hp4 hg hRx hRy hdj
              obtain ⟨S2, hO2, hO1⟩ := HMN.out
              have HO2 := Lib.hid hO2
              have HO1 := Lib.hid hO1
              clear hO2 hO1 HMN
              go_wp2_with (first
                | (go_at_call 18; with_reducible refine (AN.out _ hcr).mono ?_; rintro e w4 ⟨rfl, h4⟩; have hm4 := bxAt h4)
                | (go_at_call 15; with_reducible refine (HO2.out _ h4).mono ?_; rintro e w5 ⟨oa, ca, W6, Z6, rfl, h5, ra, rx6, ry6⟩; have hm5 := bxAt h5)
                | (go_at_call 15; with_reducible refine (HO1.out _ _ _ _ _ h5 ra rx6 ry6).mono ?_; rintro e w6 ⟨ob, cb, rfl, hb6, K1, K2⟩; have b0 := Below.refl w6.heap.size w6)
                | (go_at_call 17; with_reducible refine (K1 _ b0).mono ?_; rintro e w7 ⟨rfl, hb7⟩)
                | (go_at_call 17; with_reducible refine (K2 _ hb7).mono ?_; rintro e w8 ⟨rfl, hb8⟩))
              go_ret
              exact ⟨rfl, hb6.trans (hb8.mono hb6.size)⟩
            | false =>
              have HMN := MAIN S _ hg (by omega) hp4
              clear MAIN a1 a2 g1 hS1 okx oky mkx hl0 hl1 hp4 hg hRx hRy hdj AN
              obtain ⟨S2, hO2, hO1⟩ := HMN.out
              have HO2 := Lib.hid hO2
              have HO1 := Lib.hid hO1
              clear hO2 hO1 HMN
              go_wp2_with (first
                | (go_at_call 15; with_reducible refine (HO2.out _ hcr).mono ?_; rintro e w5 ⟨oa, ca, W6, Z6, rfl, h5, ra, rx6, ry6⟩; have hm5 := bxAt h5)
                | (go_at_call 15; with_reducible refine (HO1.out _ _ _ _ _ h5 ra rx6 ry6).mono ?_; rintro e w6 ⟨ob, cb, rfl, hb6, K1, K2⟩; have b0 := Below.refl w6.heap.size w6)
                | (go_at_call 17; with_reducible refine (K1 _ b0).mono ?_; rintro e w7 ⟨rfl, hb7⟩)
                | (go_at_call 17; with_reducible refine (K2 _ hb7).mono ?_; rintro e w8 ⟨rfl, hb8⟩))
              go_ret
              exact ⟨rfl, hb6.trans (hb8.mono hb6.size)⟩

end Go.Proofs.YtgnappifekacpaaGreatDoor
