/-
  What JournalPlays answers: true.
-/
import Derived.Deep.RegionHeld3
import Derived.Deep.QuietTactic
import Derived.Deep.DeepCutAuto
import Derived.Deep.CutBlock
import Derived.BigQuiet
import Derived.Test.YtgnappifekacpaaGreatDoorJPA
namespace Go.Proofs.YtgnappifekacpaaGreatDoor
open Go.RowKit Go.Shelf Go.Maps

set_option maxRecDepth 100000 in
set_option maxHeartbeats 16000000 in
theorem journalPlays_walk (i0 : Int) (hi0 : -9223372036854775808 ≤ i0 ∧ i0 ≤ 9223372036854775807) (v1 : Value) (xs1 : List ActJ) (hn1 : xs1.length ≤ maxLen) (hz1 : ∀ a ∈ xs1, AJW a) (w : World) (hr1 : ActsJ w w.heap.size v1 xs1) :
    Calls Tryz.prog 3 #[.int .i64 i0, v1] w (LawPost w) := by
  have HSh := Lib.hid (shown_at w)
  have HSm := Lib.hid (smallJ_at hr1 hn1 hz1)
  obtain ⟨M, hM⟩ : ∃ M, M = pickZ i0 3000 := ⟨_, rfl⟩
  have hM2 : M < 3000 := by rw [hM]; exact Nat.mod_lt _ (by omega)
  have HPk : Hid (∀ W, Calls Tryz.prog 11 #[.int .i64 i0, .int .i64 3000] W fun e w' => e = .returned (.int .i64 M) ∧ W = w') := by
    intro W
    have := pick_any i0 hi0 3000 (by omega) (by omega) W
    rw [← hM] at this
    exact this
  have HBg := Lib.hid (begun_at (1 + (M : Int)) (by omega) (by omega) w)
  have hb0 : Below w.heap.size w w := Below.refl _ _
  have HX := Lib.hid hr1
  obtain ⟨o1, c1, rfl, _⟩ := hr1
  clear hM hi0
  cases hsm : smallJ xs1 with
  | false =>
    rw [hsm] at HSm
    clear hsm hn1 hz1 HX
    go_enter Tryz.func3, Tryz.ntmps3
    go_wp2_with (first
      | (go_at_call 8; refine (HSh.out _ hb0).mono ?_; rintro e w2 ⟨rfl, hb2⟩)
      | (go_at_call 9; refine (HSm.out _ hb2).mono ?_; rintro e w3 ⟨rfl, rfl⟩)
      | (go_at_call 11; refine (HPk.out _).mono ?_; rintro e w4 ⟨rfl, rfl⟩)
      | (go_at_call 10; refine (HBg.out _ hb2).mono ?_; rintro e w1 ⟨bt, bm, rfl, h0⟩))
    go_ret
    exact ⟨rfl, boxBack h0⟩
  | true =>
    rw [hsm] at HSm
    obtain ⟨hl40, hok⟩ := smallJ_ok hsm hz1
    have HO := Lib.hid hok
    clear hsm hn1 hz1 hok
    go_enter Tryz.func3, Tryz.ntmps3
    go_wp2_with (first
      | (go_at_call 8; refine (HSh.out _ hb0).mono ?_; rintro e w2 ⟨rfl, hb2⟩)
      | (go_at_call 9; refine (HSm.out _ hb2).mono ?_; rintro e w3 ⟨rfl, rfl⟩)
      | (go_at_call 11; refine (HPk.out _).mono ?_; rintro e w4 ⟨rfl, rfl⟩)
      | (go_at_call 10; refine (HBg.out _ hb2).mono ?_; rintro e w1 ⟨bt, bm, rfl, h0'⟩; have h0 := Box.bx h0'; have hm0 := bxAt h0; clear h0'))
    clear HSh HSm HBg HPk hb2
    obtain ⟨S0, hS0⟩ : ∃ S0 : St, S0 = (0, [], [], []) := ⟨_, rfl⟩
    rw [← hS0] at h0
    have g0 : Good (1 + (M : Int)) 0 S0 := by rw [hS0]; exact Good.new (by omega) (by omega)
    go_loopw [9] (fun iv wr => ∃ (k : Nat) (S : St) (W5 : World) (Z5 : Nat → Prop), k ≤ xs1.length ∧ iv = .int .i64 k ∧ Good (1 + (M : Int)) (4 * k) S ∧ Bx w w1.heap.size bt bm W5 Z5 (1 + (M : Int)) [(false, bt, S), (true, bm, S)] wr) (fun iv _ => xs1.length - (intOf iv).toNat)
    case atStart => exact ⟨0, S0, _, _, Nat.zero_le _, rfl, g0, h0⟩
    case round =>
      obtain ⟨k, S, W5, Z5, hk, rfl, hg, hcr⟩ := hrel
      have hm1 := bxAt hcr
      have hback := bxBack hcr
      by_cases hlt : k < xs1.length
      · obtain ⟨b, f, rfl, hkc, hcell, hrl⟩ := actsJ_at HX.out (List.getElem?_eq_getElem hlt)
        have ha := HO.out _ (List.getElem_mem hlt)
        generalize xs1[k] = a at *
        have hcc := hcell wr hback
        obtain ⟨op, an, am, ap, lv, xss, tx⟩ := a
        simp only [ActCellsJ] at hcc hrl
        obtain ⟨lo, lc, hlv, _⟩ := id hrl
        subst hlv
        obtain ⟨y0, y1, y2, y3, y4, y5⟩ := hcc
        have hxl : xss.length ≤ maxLen := ha.len
        have hi5 : (k : Int) < (xs1.length : Int) := by omega
        have hi6 : (0 : Int) ≤ (k : Int) := by omega
        obtain ⟨KI, hKI⟩ : ∃ KI : Int, KI = (pickZ op 8 : Nat) := ⟨_, rfl⟩
        have hK8 : KI = 0 ∨ KI = 1 ∨ KI = 2 ∨ KI = 3 ∨ KI = 4 ∨ KI = 5 ∨ KI = 6 ∨ KI = 7 := by
          have : pickZ op 8 < 8 := Nat.mod_lt _ (by omega)
          omega
        have HP : Hid (∀ W, Calls Tryz.prog 11 #[.int .i64 op, .int .i64 8] W fun e w' => e = .returned (.int .i64 KI) ∧ W = w') := by
          intro W
          have := pick_any op ha.op 8 (by omega) (by omega) W
          rw [hKI]
          exact this
        obtain ⟨S', hS'⟩ : ∃ S', S' = jActK (1 + (M : Int)) S ⟨op, an, am, ap, .slice lo xss.length lc, xss, tx⟩ KI.toNat := ⟨_, rfl⟩
        have hg' : Good (1 + (M : Int)) (4 * (k + 1)) S' := by rw [hS']; exact hg.jActK _ _
        have HS : Hid (∀ J : Nat, KI = J → S' = jActK (1 + (M : Int)) S ⟨op, an, am, ap, .slice lo xss.length lc, xss, tx⟩ J) := fun J h => by rw [hS', h]; rfl
        obtain ⟨PB, hPB⟩ : ∃ PB, PB = PA w w1.heap.size bt bm (1 + (M : Int)) wr.heap.size ⟨op, an, am, ap, .slice lo xss.length lc, xss, tx⟩ := ⟨_, rfl⟩
        have hP : PB [] S S (wr.alloc (.cells #[.int .i64 op, .int .i64 an, .int .i64 am, .string ap, .slice lo xss.length lc, .string tx] 34)) := by
          rw [hPB]
          exact PA.start hcr ⟨op, an, am, ap, .slice lo xss.length lc, xss, tx⟩
        have HC : Hid (∀ R Sx Sy W, PB R Sx Sy W → W.cell? ⟨w1.heap.size, 0, none⟩ = some (.pointer (some ⟨bt, 0, none⟩)) ∧ W.cell? ⟨w1.heap.size, 1, none⟩ = some (.pointer (some ⟨bm, 0, none⟩)) ∧ W.cell? ⟨wr.heap.size, 0, none⟩ = some (.int .i64 op) ∧ W.cell? ⟨wr.heap.size, 1, none⟩ = some (.int .i64 an) ∧ W.cell? ⟨wr.heap.size, 2, none⟩ = some (.int .i64 am) ∧ W.cell? ⟨wr.heap.size, 3, none⟩ = some (.string ap) ∧ W.cell? ⟨wr.heap.size, 4, none⟩ = some (.slice lo xss.length lc) ∧ W.cell? ⟨wr.heap.size, 5, none⟩ = some (.string tx)) := fun R Sx Sy W h => by
          rw [hPB] at h
          exact h.cells
        have HBl : Hid (∀ R Sx Sy W W', PB R Sx Sy W → Below W.heap.size W W' → PB R Sx Sy W') := fun R Sx Sy W W' h hb => by
          rw [hPB] at h ⊢
          exact h.below hb
        have hB9 := hback
        clear hS' hKI hcell hback hcr hm1 HX HO
        go_upto_block 2 with (go_at_call 11; refine (HP.out _).mono ?_; rintro e w2 ⟨rfl, rfl⟩)
        generalize wr.alloc (.cells #[.int .i64 op, .int .i64 an, .int .i64 am, .string ap, .slice lo xss.length lc, .string tx] 34) = W9 at hP ⊢
        go_cut [11] (fun sv wx => sv = .bool true ∧ PB [] S' S' wx)
        case first =>
          obtain ⟨z0, z1, z2, z3, z4, z5, z6, z7⟩ := HC.out _ _ _ _ hP
          clear y0 y1 y2 y3 y4 y5 hg' HP
          rcases hK8 with rfl | rfl | rfl | rfl | rfl | rfl | rfl | rfl
          · have hT := (HS.out 0 rfl).trans (if_pos (by omega))
            obtain ⟨uo, uc, hfu, hff⟩ := first_is hrl hxl
            have HF : Hid (∀ R Sx Sy W, PB R Sx Sy W → Calls Tryz.prog 13 #[.slice lo xss.length lc] W fun r w' => r = .returned (.slice uo (firstOf xss).length uc) ∧ W = w') := fun R Sx Sy W h => by
              rw [hPB] at h
              exact hff W h.back
            obtain ⟨cd, hcd⟩ : ∃ cd, cd = (jAdd (1 + (M : Int)) S ap.data.toList (rawOf (firstOf xss))).1 := ⟨_, rfl⟩
            have H1 : Hid (∀ W, PB [] S S W → Calls Tryz.prog 12 #[.pointer (some ⟨bt, 0, none⟩), .string ap, .slice uo (firstOf xss).length uc] W fun r w' => r = .returned (.int .i64 cd) ∧ PB [] S' S w') := fun W h => by
              rw [hPB] at h ⊢
              rw [hcd, hT]
              exact h.add hg (by omega) ha hfu
            have H2 : Hid (∀ W, PB [] S' S W → Calls Tryz.prog 14 #[.pointer (some ⟨bm, 0, none⟩), .string ap, .slice uo (firstOf xss).length uc] W fun r w' => r = .returned (.int .i64 cd) ∧ PB [] S' S' w') := fun W h => by
              rw [hPB] at h ⊢
              rw [hcd]
              have := h.radd hg (by omega) ha hfu
              rw [← hT] at this
              exact this
            clear hcd hff hfu
            clear hT ha hg hrl hPB hB9
            have hPd := HBl.out _ _ _ _ _ hP (below_drew (Below.refl _ _))
            go_wp2
            go_region_held3 (fun W => W.cell? ⟨w1.heap.size, 0, none⟩ = some (.pointer (some ⟨bt, 0, none⟩)) ∧ W.cell? ⟨w1.heap.size, 1, none⟩ = some (.pointer (some ⟨bm, 0, none⟩)) ∧ W.cell? ⟨wr.heap.size, 3, none⟩ = some (.string ap) ∧ W.cell? ⟨wr.heap.size, 4, none⟩ = some (.slice lo xss.length lc))
              (first | exact (fun h => ⟨h.1, h.2.1, h.2.2.2.2.2.1, h.2.2.2.2.2.2.1⟩) (HC.out _ _ _ _ (show PB _ _ _ _ by assumption)))
              (first
                | (go_at_call 13; refine (HF.out _ _ _ _ (by assumption)).mono ?_; rintro e w5 ⟨rfl, rfl⟩)
                | (go_at_call 12; refine (H1.out _ (by assumption)).mono ?_; rintro e w6 ⟨rfl, h6⟩)
                | (go_at_call 14; refine (H2.out _ (by assumption)).mono ?_; rintro e w7 ⟨rfl, h7⟩))
            go_wp2
            go_meet
            exact ⟨rfl, h7⟩
          · have hT := (HS.out 1 rfl).trans (if_pos (by omega))
            obtain ⟨uo, uc, hfu, hff⟩ := first_is hrl hxl
            have HF : Hid (∀ R Sx Sy W, PB R Sx Sy W → Calls Tryz.prog 13 #[.slice lo xss.length lc] W fun r w' => r = .returned (.slice uo (firstOf xss).length uc) ∧ W = w') := fun R Sx Sy W h => by
              rw [hPB] at h
              exact hff W h.back
            obtain ⟨cd, hcd⟩ : ∃ cd, cd = (jAdd (1 + (M : Int)) S ap.data.toList (rawOf (firstOf xss))).1 := ⟨_, rfl⟩
            have H1 : Hid (∀ W, PB [] S S W → Calls Tryz.prog 12 #[.pointer (some ⟨bt, 0, none⟩), .string ap, .slice uo (firstOf xss).length uc] W fun r w' => r = .returned (.int .i64 cd) ∧ PB [] S' S w') := fun W h => by
              rw [hPB] at h ⊢
              rw [hcd, hT]
              exact h.add hg (by omega) ha hfu
            have H2 : Hid (∀ W, PB [] S' S W → Calls Tryz.prog 14 #[.pointer (some ⟨bm, 0, none⟩), .string ap, .slice uo (firstOf xss).length uc] W fun r w' => r = .returned (.int .i64 cd) ∧ PB [] S' S' w') := fun W h => by
              rw [hPB] at h ⊢
              rw [hcd]
              have := h.radd hg (by omega) ha hfu
              rw [← hT] at this
              exact this
            clear hcd hff hfu
            clear hT ha hg hrl hPB hB9
            have hPd := HBl.out _ _ _ _ _ hP (below_drew (Below.refl _ _))
            go_wp2
            go_region_held3 (fun W => W.cell? ⟨w1.heap.size, 0, none⟩ = some (.pointer (some ⟨bt, 0, none⟩)) ∧ W.cell? ⟨w1.heap.size, 1, none⟩ = some (.pointer (some ⟨bm, 0, none⟩)) ∧ W.cell? ⟨wr.heap.size, 3, none⟩ = some (.string ap) ∧ W.cell? ⟨wr.heap.size, 4, none⟩ = some (.slice lo xss.length lc))
              (first | exact (fun h => ⟨h.1, h.2.1, h.2.2.2.2.2.1, h.2.2.2.2.2.2.1⟩) (HC.out _ _ _ _ (show PB _ _ _ _ by assumption)))
              (first
                | (go_at_call 13; refine (HF.out _ _ _ _ (by assumption)).mono ?_; rintro e w5 ⟨rfl, rfl⟩)
                | (go_at_call 12; refine (H1.out _ (by assumption)).mono ?_; rintro e w6 ⟨rfl, h6⟩)
                | (go_at_call 14; refine (H2.out _ (by assumption)).mono ?_; rintro e w7 ⟨rfl, h7⟩))
            go_wp2
            go_meet
            exact ⟨rfl, h7⟩
          · have hT := (HS.out 2 rfl).trans (if_pos (by omega))
            obtain ⟨uo, uc, hfu, hff⟩ := first_is hrl hxl
            have HF : Hid (∀ R Sx Sy W, PB R Sx Sy W → Calls Tryz.prog 13 #[.slice lo xss.length lc] W fun r w' => r = .returned (.slice uo (firstOf xss).length uc) ∧ W = w') := fun R Sx Sy W h => by
              rw [hPB] at h
              exact hff W h.back
            obtain ⟨cd, hcd⟩ : ∃ cd, cd = (jAdd (1 + (M : Int)) S ap.data.toList (rawOf (firstOf xss))).1 := ⟨_, rfl⟩
            have H1 : Hid (∀ W, PB [] S S W → Calls Tryz.prog 12 #[.pointer (some ⟨bt, 0, none⟩), .string ap, .slice uo (firstOf xss).length uc] W fun r w' => r = .returned (.int .i64 cd) ∧ PB [] S' S w') := fun W h => by
              rw [hPB] at h ⊢
              rw [hcd, hT]
              exact h.add hg (by omega) ha hfu
            have H2 : Hid (∀ W, PB [] S' S W → Calls Tryz.prog 14 #[.pointer (some ⟨bm, 0, none⟩), .string ap, .slice uo (firstOf xss).length uc] W fun r w' => r = .returned (.int .i64 cd) ∧ PB [] S' S' w') := fun W h => by
              rw [hPB] at h ⊢
              rw [hcd]
              have := h.radd hg (by omega) ha hfu
              rw [← hT] at this
              exact this
            clear hcd hff hfu
            clear hT ha hg hrl hPB hB9
            have hPd := HBl.out _ _ _ _ _ hP (below_drew (Below.refl _ _))
            go_wp2
            go_region_held3 (fun W => W.cell? ⟨w1.heap.size, 0, none⟩ = some (.pointer (some ⟨bt, 0, none⟩)) ∧ W.cell? ⟨w1.heap.size, 1, none⟩ = some (.pointer (some ⟨bm, 0, none⟩)) ∧ W.cell? ⟨wr.heap.size, 3, none⟩ = some (.string ap) ∧ W.cell? ⟨wr.heap.size, 4, none⟩ = some (.slice lo xss.length lc))
              (first | exact (fun h => ⟨h.1, h.2.1, h.2.2.2.2.2.1, h.2.2.2.2.2.2.1⟩) (HC.out _ _ _ _ (show PB _ _ _ _ by assumption)))
              (first
                | (go_at_call 13; refine (HF.out _ _ _ _ (by assumption)).mono ?_; rintro e w5 ⟨rfl, rfl⟩)
                | (go_at_call 12; refine (H1.out _ (by assumption)).mono ?_; rintro e w6 ⟨rfl, h6⟩)
                | (go_at_call 14; refine (H2.out _ (by assumption)).mono ?_; rintro e w7 ⟨rfl, h7⟩))
            go_wp2
            go_meet
            exact ⟨rfl, h7⟩
          · have hT := (HS.out 3 rfl).trans ((if_neg (by omega)).trans (if_pos rfl))
            obtain ⟨ls, hls⟩ : ∃ ls, ls = (jOpen (1 + (M : Int)) S ap.data.toList).1 := ⟨_, rfl⟩
            obtain ⟨ce, hce⟩ : ∃ ce, ce = (jOpen (1 + (M : Int)) S ap.data.toList).2.1 := ⟨_, rfl⟩
            have hla := open_lists_are (1 + (M : Int)) S ap.data.toList hg.files.srt (hg.texts (by omega))
            rw [← hls] at hla
            obtain ⟨X, hX⟩ : ∃ X, X = LLtxt ls := ⟨_, rfl⟩
            obtain ⟨NL, hNL⟩ : ∃ NL, NL = ls.length := ⟨_, rfl⟩
            have H1 : Hid (∀ W, PB [] S S W → Calls Tryz.prog 15 #[.pointer (some ⟨bt, 0, none⟩), .string ap] W fun r w' => ∃ o c, r = .returned (.tuple #[.slice o NL c, .int .i64 ce]) ∧ PB [(.slice o NL c, X)] S' S w') := fun W h => by
              rw [hPB] at h ⊢
              rw [hNL, hX, hls, hce, hT]
              exact h.open hg (by omega) ha (by omega)
            have H2 : Hid (∀ p W, PB [p] S' S W → Calls Tryz.prog 16 #[.pointer (some ⟨bm, 0, none⟩), .string ap] W fun r w' => ∃ o c, r = .returned (.tuple #[.slice o NL c, .int .i64 ce]) ∧ PB [(.slice o NL c, X), p] S' S' w') := fun p W h => by
              rw [hPB] at h ⊢
              rw [hNL, hX, hls, hce]
              have := h.ropen hg (by omega) ha (by omega)
              rw [← hT] at this
              exact this
            have H3 : Hid (∀ o c o' c' W, PB [(.slice o' NL c', X), (.slice o NL c, X)] S' S' W → Calls Tryz.prog 17 #[.slice o NL c, .slice o' NL c'] W fun r w' => r = .returned (.bool true) ∧ PB [] S' S' w') := fun o c o' c' W h => by
              rw [hPB] at h ⊢
              rw [hX] at h
              exact (PA.same h (List.mem_cons_of_mem _ (List.mem_cons_self ..)) (List.mem_cons_self ..) hla.1 hla.2).mono fun _ _ k => ⟨k.1, k.2.forget⟩
            clear hls hce hla hX hNL
            clear hT ha hg hrl hPB hB9
            go_wp2_with (first
              | (go_at_call 15; refine (H1.out _ hP).mono ?_; rintro e w5 ⟨xo, xc, rfl, h5⟩; obtain ⟨z0, z1, z2, z3, z4, z5, z6, z7⟩ := HC.out _ _ _ _ h5)
              | (go_at_call 16; refine (H2.out _ _ h5).mono ?_; rintro e w6 ⟨yo, yc, rfl, h6⟩)
              | (go_at_call 17; refine (H3.out _ _ _ _ _ h6).mono ?_; rintro e w7 ⟨rfl, h7⟩))
            go_meet
            exact ⟨rfl, h7⟩
          · have hT := (HS.out 4 rfl).trans ((if_neg (by omega)).trans ((if_neg (by omega)).trans (if_pos rfl)))
            obtain ⟨cd, hcd⟩ : ∃ cd, cd = (jAnew (1 + (M : Int)) S ap.data.toList (rawLL xss)).1 := ⟨_, rfl⟩
            have H1 : Hid (∀ W, PB [] S S W → Calls Tryz.prog 18 #[.pointer (some ⟨bt, 0, none⟩), .string ap, .slice lo xss.length lc] W fun r w' => r = .returned (.int .i64 cd) ∧ PB [] S' S w') := fun W h => by
              rw [hPB] at h ⊢
              rw [hcd, hT]
              exact h.anew hg (by omega) ha hrl
            have H2 : Hid (∀ W, PB [] S' S W → Calls Tryz.prog 19 #[.pointer (some ⟨bm, 0, none⟩), .string ap, .slice lo xss.length lc] W fun r w' => r = .returned (.int .i64 cd) ∧ PB [] S' S' w') := fun W h => by
              rw [hPB] at h ⊢
              rw [hcd]
              have := h.ranew hg (by omega) ha hrl
              rw [← hT] at this
              exact this
            clear hcd
            clear hT ha hg hrl hPB hB9
            have hPd := HBl.out _ _ _ _ _ hP (below_drew (Below.refl _ _))
            go_wp2
            go_region_held3 (fun W => W.cell? ⟨w1.heap.size, 0, none⟩ = some (.pointer (some ⟨bt, 0, none⟩)) ∧ W.cell? ⟨w1.heap.size, 1, none⟩ = some (.pointer (some ⟨bm, 0, none⟩)) ∧ W.cell? ⟨wr.heap.size, 3, none⟩ = some (.string ap) ∧ W.cell? ⟨wr.heap.size, 4, none⟩ = some (.slice lo xss.length lc))
              (first | exact (fun h => ⟨h.1, h.2.1, h.2.2.2.2.2.1, h.2.2.2.2.2.2.1⟩) (HC.out _ _ _ _ (show PB _ _ _ _ by assumption)))
              (first
                | (go_at_call 18; refine (H1.out _ (by assumption)).mono ?_; rintro e w6 ⟨rfl, h6⟩)
                | (go_at_call 19; refine (H2.out _ (by assumption)).mono ?_; rintro e w7 ⟨rfl, h7⟩))
            go_wp2
            go_meet
            exact ⟨rfl, h7⟩
          · have hT := (HS.out 5 rfl).trans ((if_neg (by omega)).trans ((if_neg (by omega)).trans ((if_neg (by omega)).trans (if_pos rfl))))
            have H1 : Hid (∀ W, PB [] S S W → Calls Tryz.prog 20 #[.pointer (some ⟨bt, 0, none⟩)] W fun r w' => r = .returned (.tuple #[]) ∧ PB [] S' S w') := fun W h => by
              rw [hPB] at h ⊢
              rw [hT]
              exact h.sync hg (by omega) ha
            have H2 : Hid (∀ W, PB [] S' S W → Calls Tryz.prog 21 #[.pointer (some ⟨bm, 0, none⟩)] W fun r w' => r = .returned (.tuple #[]) ∧ PB [] S' S' w') := fun W h => by
              rw [hPB] at h ⊢
              have := h.rsync hg (by omega) ha
              rw [← hT] at this
              exact this
            clear hT ha hg hrl hPB hB9
            go_wp2_with (first
              | (go_at_call 20; refine (H1.out _ hP).mono ?_; rintro e w5 ⟨rfl, h5⟩; obtain ⟨z0, z1, z2, z3, z4, z5, z6, z7⟩ := HC.out _ _ _ _ h5)
              | (go_at_call 21; refine (H2.out _ h5).mono ?_; rintro e w6 ⟨rfl, h6⟩))
            go_meet
            exact ⟨rfl, h6⟩
          · have hT := (HS.out 6 rfl).trans ((if_neg (by omega)).trans ((if_neg (by omega)).trans ((if_neg (by omega)).trans ((if_neg (by omega)).trans (if_pos rfl)))))
            have H1 : Hid (∀ W, PB [] S S W → Calls Tryz.prog 22 #[.pointer (some ⟨bt, 0, none⟩), .int .i64 an, .int .i64 am] W fun r w' => r = .returned (.tuple #[]) ∧ PB [] S' S w') := fun W h => by
              rw [hPB] at h ⊢
              rw [hT]
              exact h.crash hg (by omega) ha
            have H2 : Hid (∀ W, PB [] S' S W → Calls Tryz.prog 23 #[.pointer (some ⟨bm, 0, none⟩), .int .i64 an, .int .i64 am] W fun r w' => r = .returned (.tuple #[]) ∧ PB [] S' S' w') := fun W h => by
              rw [hPB] at h ⊢
              have := h.rcrash hg (by omega) ha
              rw [← hT] at this
              exact this
            clear hT ha hg hrl hPB hB9
            go_wp2_with (first
              | (go_at_call 22; refine (H1.out _ hP).mono ?_; rintro e w5 ⟨rfl, h5⟩; obtain ⟨z0, z1, z2, z3, z4, z5, z6, z7⟩ := HC.out _ _ _ _ h5)
              | (go_at_call 23; refine (H2.out _ h5).mono ?_; rintro e w6 ⟨rfl, h6⟩))
            go_meet
            exact ⟨rfl, h6⟩
          · have hT := (HS.out 7 rfl).trans ((if_neg (by omega)).trans ((if_neg (by omega)).trans ((if_neg (by omega)).trans ((if_neg (by omega)).trans (if_neg (by omega))))))
            obtain ⟨cd, hcd⟩ : ∃ cd, cd = (opA (1 + (M : Int)) S ap.data.toList tx.data.toList).1 := ⟨_, rfl⟩
            have H1 : Hid (∀ W, PB [] S S W → Calls Tryz.prog 24 #[.pointer (some ⟨bt, 0, none⟩), .string ap, .string tx] W fun r w' => r = .returned (.int .i64 cd) ∧ PB [] S' S w') := fun W h => by
              rw [hPB] at h ⊢
              rw [hcd, hT]
              exact h.append hg (by omega) ha
            have H2 : Hid (∀ W, PB [] S' S W → Calls Tryz.prog 25 #[.pointer (some ⟨bm, 0, none⟩), .string ap, .string tx] W fun r w' => r = .returned (.int .i64 cd) ∧ PB [] S' S' w') := fun W h => by
              rw [hPB] at h ⊢
              rw [hcd]
              have := h.rappend hg (by omega) ha
              rw [← hT] at this
              exact this
            clear hcd
            clear hT ha hg hrl hPB hB9
            have hPd := HBl.out _ _ _ _ _ hP (below_drew (Below.refl _ _))
            go_wp2
            go_region_held3 (fun W => W.cell? ⟨w1.heap.size, 0, none⟩ = some (.pointer (some ⟨bt, 0, none⟩)) ∧ W.cell? ⟨w1.heap.size, 1, none⟩ = some (.pointer (some ⟨bm, 0, none⟩)) ∧ W.cell? ⟨wr.heap.size, 3, none⟩ = some (.string ap) ∧ W.cell? ⟨wr.heap.size, 5, none⟩ = some (.string tx))
              (first | exact (fun h => ⟨h.1, h.2.1, h.2.2.2.2.2.1, h.2.2.2.2.2.2.2⟩) (HC.out _ _ _ _ (show PB _ _ _ _ by assumption)))
              (first
                | (go_at_call 24; refine (H1.out _ (by assumption)).mono ?_; rintro e w6 ⟨rfl, h6⟩)
                | (go_at_call 25; refine (H2.out _ (by assumption)).mono ?_; rintro e w7 ⟨rfl, h7⟩))
            go_wp2
            go_meet
            exact ⟨rfl, h7⟩
        case rest =>
          obtain ⟨rfl, hP2⟩ := hcut
          obtain ⟨z0, z1, z2, z3, z4, z5, z6, z7⟩ := HC.out _ _ _ _ hP2
          have htl := hg'.texts (by omega)
          obtain ⟨ls, hls⟩ : ∃ ls, ls = listsOf (textOf S'.now ap.data.toList) := ⟨_, rfl⟩
          obtain ⟨wb, hwb⟩ : ∃ wb, wb = wholeB (textOf S'.now ap.data.toList) := ⟨_, rfl⟩
          have hla : ls.length ≤ 100000 := by rw [hls]; exact lists_small _ (htl _)
          have hlf : ∀ x ∈ ls, Fit x := by rw [hls]; exact lists_fit _
          obtain ⟨X, hX⟩ : ∃ X, X = LLtxt ls := ⟨_, rfl⟩
          obtain ⟨NL, hNL⟩ : ∃ NL, NL = ls.length := ⟨_, rfl⟩
          have H1 : Hid (∀ W, PB [] S' S' W → Calls Tryz.prog 26 #[.pointer (some ⟨bt, 0, none⟩), .string ap] W fun r w' => ∃ o c, r = .returned (.tuple #[.slice o NL c, .bool wb]) ∧ PB [(.slice o NL c, X)] S' S' w') := fun W h => by
            rw [hPB] at h ⊢
            rw [hNL, hX, hls, hwb]
            exact h.read hg' (by omega) ha (by omega)
          have H2 : Hid (∀ p W, PB [p] S' S' W → Calls Tryz.prog 27 #[.pointer (some ⟨bm, 0, none⟩), .string ap] W fun r w' => ∃ o c, r = .returned (.tuple #[.slice o NL c, .bool wb]) ∧ PB [(.slice o NL c, X), p] S' S' w') := fun p W h => by
            rw [hPB] at h ⊢
            rw [hNL, hX, hls, hwb]
            exact h.rread hg' (by omega) ha (by omega)
          have H3 : Hid (∀ R W, PB R S' S' W → Calls Tryz.prog 28 #[.agg #[.pointer (some ⟨bt, 0, none⟩), .pointer (some ⟨bm, 0, none⟩)]] W fun r w' => r = .returned (.bool true) ∧ PB R S' S' w') := fun R W h => by
            rw [hPB] at h ⊢
            exact h.alike hg' (by omega)
          have H4 : Hid (∀ o c o' c' W, PB [(.slice o' NL c', X), (.slice o NL c, X)] S' S' W → Calls Tryz.prog 17 #[.slice o NL c, .slice o' NL c'] W fun r w' => r = .returned (.bool true) ∧ ∃ W6 Z6, Bx w w1.heap.size bt bm W6 Z6 (1 + (M : Int)) [(false, bt, S'), (true, bm, S')] w') := fun o c o' c' W h => by
            rw [hPB] at h
            rw [hX] at h
            exact (PA.same h (List.mem_cons_of_mem _ (List.mem_cons_self ..)) (List.mem_cons_self ..) hla hlf).mono fun _ _ k => ⟨k.1, k.2.box⟩
          clear htl hls hwb hla hlf hX hNL ha hg hrl hPB hB9 hP HS HP hK8 y0 y1 y2 y3 y4 y5
          go_wp2_with (first
            | (go_at_call 26; refine (H1.out _ hP2).mono ?_; rintro e w5 ⟨xo, xc, rfl, h5⟩; obtain ⟨z0, z1, z2, z3, z4, z5, z6, z7⟩ := HC.out _ _ _ _ h5)
            | (go_at_call 27; refine (H2.out _ _ h5).mono ?_; rintro e w6 ⟨yo, yc, rfl, h6⟩; obtain ⟨z0, z1, z2, z3, z4, z5, z6, z7⟩ := HC.out _ _ _ _ h6)
            | (go_at_call 28; refine (H3.out _ _ h6).mono ?_; rintro e w7 ⟨rfl, h7⟩)
            | (go_at_call 17; refine (H4.out _ _ _ _ _ h7).mono ?_; rintro e w8 ⟨rfl, W6, Z6, h8⟩))
          go_roundw
          case rel => exact ⟨k + 1, S', W6, Z6, hlt, by go_num, hg', h8⟩
          case measure => simp [intOf]; omega
      · clear HX HO
        go_wp2
        go_ret
        exact ⟨rfl, hback⟩

end Go.Proofs.YtgnappifekacpaaGreatDoor
