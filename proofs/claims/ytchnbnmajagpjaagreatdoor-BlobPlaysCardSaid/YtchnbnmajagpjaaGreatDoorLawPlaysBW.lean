/-
  BlobPlays: after any acts all errors, numbers, texts and files are as the chapter says: for every argument. No condition.
-/
import Derived.Deep.RegionHeld3
import Derived.Deep.QuietTactic
import Derived.Deep.DeepCutAuto
import Derived.Deep.CutBlock
import Derived.BigQuiet
import Derived.Test.YtchnbnmajagpjaaGreatDoorBPlay
namespace Go.Proofs.YtchnbnmajagpjaaGreatDoor
open Go.RowKit Go.Shelf Go.Maps

set_option maxRecDepth 100000 in
set_option maxHeartbeats 16000000 in
theorem blobPlays_walk (i0 : Int) (hi0 : -9223372036854775808 ≤ i0 ∧ i0 ≤ 9223372036854775807) (v1 : Value) (xs1 : List ActB) (hn1 : xs1.length ≤ maxLen) (hz1 : ∀ a ∈ xs1, ABW a) (w : World) (hr1 : ActsB w w.heap.size v1 xs1) :
    Calls Tryz.prog 3 #[.int .i64 i0, v1] w (LawPost w) := by
  have HSh := Lib.hid (shownB_at w)
  have HSm := Lib.hid (smallA_at hr1 hn1 hz1)
  obtain ⟨M, hM⟩ : ∃ M, M = pickZ i0 20000 := ⟨_, rfl⟩
  have hM2 : M < 20000 := by rw [hM]; exact Nat.mod_lt _ (by omega)
  have HPk : Hid (∀ W, Calls Tryz.prog 11 #[.int .i64 i0, .int .i64 20000] W fun e w' => e = .returned (.int .i64 M) ∧ W = w') := by
    intro W
    have := pick_any i0 hi0 20000 (by omega) (by omega) W
    rw [← hM] at this
    exact this
  have HBg : Hid (∀ W, Below w.heap.size w W → _) := fun W hb => begunN (w0 := w) (1 + (M : Int)) (by omega) (by omega) hb
  have hb0 : Below w.heap.size w w := Below.refl _ _
  have HX := Lib.hid hr1
  obtain ⟨o1, c1, rfl, _⟩ := hr1
  clear hM hi0
  cases hsm : smallA xs1 with
  | false =>
    rw [hsm] at HSm
    clear hsm hn1 hz1 HX
    go_enter Tryz.func3, Tryz.ntmps3
    go_wp2_with (first
      | (go_at_call 8; refine (HSh.out _ hb0).mono ?_; rintro e w2 ⟨rfl, hb2⟩)
      | (go_at_call 9; refine (HSm.out _ hb2).mono ?_; rintro e w3 ⟨rfl, rfl⟩)
      | (go_at_call 11; refine (HPk.out _).mono ?_; rintro e w4 ⟨rfl, rfl⟩)
      | (go_at_call 10; refine (HBg.out _ hb2).mono ?_; rintro e w1 ⟨bt, bm, rfl, h0⟩))
    go_ret
    exact ⟨rfl, h0.back⟩
  | true =>
    rw [hsm] at HSm
    obtain ⟨hl40, hok⟩ := smallA_ok hsm hz1
    have HO := Lib.hid hok
    clear hsm hn1 hz1 hok
    go_enter Tryz.func3, Tryz.ntmps3
    go_wp2_with (first
      | (go_at_call 8; refine (HSh.out _ hb0).mono ?_; rintro e w2 ⟨rfl, hb2⟩)
      | (go_at_call 9; refine (HSm.out _ hb2).mono ?_; rintro e w3 ⟨rfl, rfl⟩)
      | (go_at_call 11; refine (HPk.out _).mono ?_; rintro e w4 ⟨rfl, rfl⟩)
      | (go_at_call 10; refine (HBg.out _ hb2).mono ?_; rintro e w1 ⟨bt, bm, rfl, h0⟩))
    clear HSh HSm HBg HPk hb0 hb2
    obtain ⟨S0, hS0⟩ : ∃ S0 : St, S0 = (0, [], [], []) := ⟨_, rfl⟩
    rw [← hS0] at h0
    have g0 : Good (1 + (M : Int)) 0 S0 := by rw [hS0]; exact Good.new (by omega) (by omega)
    have h1 : TA w bt bm w1.heap.size (1 + (M : Int)) [] S0 S0 (pairN w1 bt bm) := In.perm h0 ((List.Perm.swap _ _ []).cons _)
    obtain ⟨p0, p1⟩ := h1.cells
    obtain ⟨cd, L0, S1, hg1, hL0, hO1, hO2⟩ := TA.opens w bt bm w1.heap.size [] g0 (by omega) (by omega)
    have HO1 := Lib.hid (hO1 _ h1)
    have HO2 := Lib.hid hO2
    clear h0 hS0 g0 h1 hO1 hO2
    go_wp2_with fail
    refine HO1.out.mono ?_
    rintro e w2 ⟨sv, rfl, h2⟩
    obtain ⟨p2, p3⟩ := h2.cells
    have HO3 := Lib.hid (HO2.out _ _ h2)
    clear HO1 HO2 h2
    go_wp2_with fail
    refine HO3.out.mono ?_
    rintro e w3 ⟨mv, rfl, h3⟩
    clear HO3
    go_wp2
    go_loopw [9, 10, 11, 12, 13] (fun sx ex mx fx ix wr => ∃ (k : Nat) (c : Int) (L : List BS) (S : St) (sa ma : Option Addr), k ≤ xs1.length ∧ sx = .pointer sa ∧ ex = .int .i64 c ∧ mx = .pointer ma ∧ fx = .int .i64 c ∧ ix = .int .i64 k ∧ Hid (Good (1 + (M : Int)) (8 * (k + 1)) S ∧ L.length ≤ 50000 + k) ∧ FA w bt bm w1.heap.size (1 + (M : Int)) [] c L sa ma S wr) (fun _ _ _ _ ix _ => xs1.length + 1 - (intOf ix).toNat)
    case atStart => exact ⟨0, cd, L0, S1, sv, mv, Nat.zero_le _, rfl, rfl, rfl, rfl, rfl, ⟨hg1.more (by omega), by omega⟩, h3⟩
    case round =>
      clear h3 hg1 hL0
      obtain ⟨k, c, L, S, sa, ma, hk, rfl, rfl, rfl, rfl, rfl, HG, hF⟩ := hrel
      have dk : decide ((k : Int) ≤ (xs1.length : Int)) = true := by simp; omega
      rcases hF with ⟨rfl, sb, mb, rfl, rfl, hP⟩ | ⟨hc, rfl, rfl, hT⟩
      · obtain ⟨p4, p5⟩ := hP.cells
        have HA := Lib.hid (hP.alike HG.out.1 (by omega))
        clear hP
        by_cases hlt : k < xs1.length
        · obtain ⟨b, f, rfl, hkc, hcell, hrl⟩ := actsB_at HX.out (List.getElem?_eq_getElem hlt)
          have ha := HO.out _ (List.getElem_mem hlt)
          generalize xs1[k] = a at *
          obtain ⟨op, an, am, tx, lv, xs⟩ := a
          simp only [ActCellsB] at hcell hrl
          obtain ⟨lo, lc, hlv, _⟩ := id hrl
          subst hlv
          have HCell := Lib.hid hcell
          have hi5 : (k : Int) < (xs1.length : Int) := by omega
          have hi6 : (0 : Int) ≤ (k : Int) := by omega
          have hi7 : ((k : Int) == (xs1.length : Int)) = false := by simp; omega
          obtain ⟨KI, hKI⟩ : ∃ KI : Int, KI = (pickZ op 8 : Nat) := ⟨_, rfl⟩
          have hK8 : (0 ≤ KI ∧ KI < 5) ∨ KI = 5 ∨ KI = 6 ∨ KI = 7 := by
            have : pickZ op 8 < 8 := Nat.mod_lt _ (by omega)
            omega
          have HP : Hid (∀ W, Calls Tryz.prog 11 #[.int .i64 op, .int .i64 8] W fun e w' => e = .returned (.int .i64 KI) ∧ W = w') := by
            intro W
            have := pick_any op ha.op 8 (by omega) (by omega) W
            rw [hKI]
            exact this
          have hgS := HG.out.1
          have hgL := HG.out.2
          clear hKI hcell HX HO HG hk
          go_wp2_with fail
          refine HA.out.mono ?_
          rintro e w5 ⟨rfl, h5⟩
          obtain ⟨y0, y1, y2, y3, y4⟩ := HCell.out w5 h5.back
          have h6 := h5.make ⟨op, an, am, tx, .slice lo xs.length lc, xs⟩
          obtain ⟨z0, z1, z2, z3, z4⟩ := h6.act
          obtain ⟨p6, p7⟩ := h6.cells
          simp only at z0 z1 z2 z3 z4
          clear HCell HA h5 p4 p5
          obtain ⟨PB, hPB⟩ : ∃ PB, PB = PA w bt bm w1.heap.size (1 + (M : Int)) [oAct w5.heap.size ⟨op, an, am, tx, .slice lo xs.length lc, xs⟩] := ⟨_, rfl⟩
          obtain ⟨TB, hTB⟩ : ∃ TB, TB = TA w bt bm w1.heap.size (1 + (M : Int)) [oAct w5.heap.size ⟨op, an, am, tx, .slice lo xs.length lc, xs⟩] := ⟨_, rfl⟩
          have HCP : Hid (∀ sb mb Lx Ly Sx Sy W, PB sb mb Lx Ly Sx Sy W → W.cell? ⟨w1.heap.size, 0, none⟩ = some (.pointer (some ⟨bt, 0, none⟩)) ∧ W.cell? ⟨w1.heap.size, 1, none⟩ = some (.pointer (some ⟨bm, 0, none⟩)) ∧ W.cell? ⟨w5.heap.size, 1, none⟩ = some (.int .i64 an) ∧ W.cell? ⟨w5.heap.size, 2, none⟩ = some (.int .i64 am) ∧ W.cell? ⟨w5.heap.size, 3, none⟩ = some (.string tx)) := fun sb mb Lx Ly Sx Sy W h => by
            rw [hPB] at h
            exact ⟨h.cells.1, h.cells.2, h.act.2.1, h.act.2.2.1, h.act.2.2.2.1⟩
          have HCT : Hid (∀ Sx Sy W, TB Sx Sy W → W.cell? ⟨w1.heap.size, 0, none⟩ = some (.pointer (some ⟨bt, 0, none⟩)) ∧ W.cell? ⟨w1.heap.size, 1, none⟩ = some (.pointer (some ⟨bm, 0, none⟩)) ∧ W.cell? ⟨w5.heap.size, 1, none⟩ = some (.int .i64 an) ∧ W.cell? ⟨w5.heap.size, 2, none⟩ = some (.int .i64 am) ∧ W.cell? ⟨w5.heap.size, 4, none⟩ = some (.slice lo xs.length lc)) := fun Sx Sy W h => by
            rw [hTB] at h
            exact ⟨h.cells.1, h.cells.2, h.act.2.1, h.act.2.2.1, h.act.2.2.2.2⟩
          have HBP : Hid (∀ sb mb Lx Ly Sx Sy W W', PB sb mb Lx Ly Sx Sy W → Below W.heap.size W W' → PB sb mb Lx Ly Sx Sy W') := fun sb mb Lx Ly Sx Sy W W' h hb => by
            rw [hPB] at h ⊢
            exact h.below hb
          have HBT : Hid (∀ Sx Sy W W', TB Sx Sy W → Below W.heap.size W W' → TB Sx Sy W') := fun Sx Sy W W' h hb => by
            rw [hTB] at h ⊢
            exact h.below hb
          rw [← hPB] at h6
          rcases hK8 with hK | rfl | rfl | rfl
          · have e1 : decide (KI < 5) = true := by simp; omega
            have e2 : (KI == 6) = false := by simp; omega
            have e3 : (KI == 7) = false := by simp; omega
            have e4 : decide (5 ≤ KI) = false := by simp; omega
            have e5 : KI < 5 := by omega
            have e6 : ¬ 5 ≤ KI := by omega
            obtain ⟨x, gx, L', S', hg', hL', hI1, hI2⟩ := PA.ids w bt bm w1.heap.size [oAct w5.heap.size ⟨op, an, am, tx, .slice lo xs.length lc, xs⟩] (L := L) sb mb hgS (by omega) (by omega) tx (by have h9 : tx.size ≤ 4500 := ha.text1; omega)
            rw [← hPB] at hI1 hI2
            have H1 := Lib.hid hI1
            have H2 := Lib.hid hI2
            have HT1 : Hid (∀ W, PB sb mb L' L' S' S' W → Calls Tryz.prog 21 #[.pointer (some ⟨sb, 0, none⟩), .int .i64 an] W fun e W' => e = .returned (.tuple #[.string (textAt L' an).1, .bool (textAt L' an).2]) ∧ W = W') := fun W h => by
              rw [hPB] at h
              exact h.text1 (by omega) an ha.n
            have HT2 : Hid (∀ W, PB sb mb L' L' S' S' W → Calls Tryz.prog 22 #[.pointer (some ⟨mb, 0, none⟩), .int .i64 an] W fun e W' => e = .returned (.tuple #[.string (textAt L' an).1, .bool (textAt L' an).2]) ∧ W = W') := fun W h => by
              rw [hPB] at h
              exact h.text2 (by omega) an ha.n
            have HF1 : Hid (∀ W, PB sb mb L' L' S' S' W → Calls Tryz.prog 24 #[.pointer (some ⟨sb, 0, none⟩), .string tx] W fun e W' => e = .returned (.int .i64 (findN L' tx.data.toList : Nat)) ∧ W = W') := fun W h => by
              rw [hPB] at h
              exact h.find1 tx ha.text
            have HF2 : Hid (∀ W, PB sb mb L' L' S' S' W → Calls Tryz.prog 25 #[.pointer (some ⟨mb, 0, none⟩), .string tx] W fun e W' => e = .returned (.int .i64 (findN L' tx.data.toList : Nat)) ∧ W = W') := fun W h => by
              rw [hPB] at h
              exact h.find2 (by omega) tx
            have HLn : Hid (∀ W, PB sb mb L' L' S' S' W → Calls Tryz.prog 23 #[.pointer (some ⟨sb, 0, none⟩)] W fun e W' => e = .returned (.int .i64 L'.length) ∧ W = W') := fun W h => by
              rw [hPB] at h
              exact h.len1
            have HRL : Hid (∀ W, PB sb mb L' L' S' S' W → ∃ o c, W.cell? ⟨mb, 2, none⟩ = some (.slice o L'.length c)) := fun W h => by
              rw [hPB] at h
              exact h.refL
            have HEnd : Hid (∀ W, PB sb mb L' L' S' S' W → Hid (Good (1 + (M : Int)) (8 * (k + 1 + 1)) S' ∧ L'.length ≤ 50000 + (k + 1)) ∧ FA w bt bm w1.heap.size (1 + (M : Int)) [] 0 L' (some ⟨sb, 0, none⟩) (some ⟨mb, 0, none⟩) S' W) := fun W h => by
              rw [hPB] at h
              exact ⟨⟨hg'.more (by omega), by omega⟩, .inl ⟨rfl, sb, mb, rfl, rfl, h.forget⟩⟩
            clear hI1 hI2 hg' hL' hgS hgL ha hPB hTB hrl HCT HBT
            generalize hta : textAt L' an = ta at HT1 HT2
            obtain ⟨ts, tb⟩ := ta
            clear hta
            have hq : (ts.toList == ts.toList) = true := by simp
            generalize hLN : L'.length = LN at HLn HRL
            clear hLN
            generalize findN L' tx.data.toList = NN at *
            go_wp2_with (first
              | (go_at_call 11; refine (HP.out _).mono ?_; rintro e w6 ⟨rfl, rfl⟩)
              | (go_at_call 15; with_reducible refine (H1.out _ h6).mono ?_; rintro e w7 ⟨rfl, h7⟩; obtain ⟨_, _, _, _, q3⟩ := HCP.out _ _ _ _ _ _ _ h7)
              | (go_at_call 16; with_reducible refine (H2.out _ h7).mono ?_; rintro e w8 ⟨rfl, h8⟩))
            go_quiet (fail)
            have h9 := HBP.out _ _ _ _ _ _ _ _ h8 (below_drewN (Below.refl _ w8) nq)
            clear h8 h7 h6
            generalize w8.drewN nq = w9 at h9 ⊢
            obtain ⟨q0, q1, q2, _, q4⟩ := HCP.out _ _ _ _ _ _ _ h9
            go_wp2_with (first
              | (go_at_call 21; with_reducible refine (HT1.out _ h9).mono ?_; rintro e w10 ⟨rfl, rfl⟩)
              | (go_at_call 22; with_reducible refine (HT2.out _ h9).mono ?_; rintro e w11 ⟨rfl, rfl⟩))
            have hPd := HBP.out _ _ _ _ _ _ _ _ h9 (below_drew (Below.refl _ _))
            obtain ⟨ro, rc, hro⟩ := HRL.out _ hPd
            have hq4 := (HCP.out _ _ _ _ _ _ _ hPd).2.2.2.2
            clear h9
            go_region_held3 (fun W => PB sb mb L' L' S' S' W ∧ W.cell? ⟨w5.heap.size, 3, none⟩ = some (.string tx) ∧ W.cell? ⟨mb, 2, none⟩ = some (.slice ro LN rc))
              (first | exact ⟨by assumption, by assumption, by assumption⟩)
              (first
                | (go_at_call 23; with_reducible refine (HLn.out _ (by assumption)).mono ?_; rintro e w12 ⟨rfl, rfl⟩)
                | (go_at_call 24; with_reducible refine (HF1.out _ (by assumption)).mono ?_; rintro e w13 ⟨rfl, rfl⟩)
                | (go_at_call 25; with_reducible refine (HF2.out _ (by assumption)).mono ?_; rintro e w14 ⟨rfl, rfl⟩))
            all_goals (
              go_wp2
              go_roundw
              case rel => exact ⟨k + 1, 0, L', S', _, _, hlt, rfl, rfl, rfl, rfl, by go_num, (HEnd.out _ (by assumption)).1, (HEnd.out _ (by assumption)).2⟩
              case measure => simp [intOf]; omega)
          · have hT6 : TB S S (w5.alloc (.cells #[.int .i64 op, .int .i64 an, .int .i64 am, .string tx, .slice lo xs.length lc] 41)) := by rw [hTB]; rw [hPB] at h6; exact h6.trees
            obtain ⟨c', L', S', hg', hL', hO1, hO2⟩ := TA.opens w bt bm w1.heap.size [oAct w5.heap.size ⟨op, an, am, tx, .slice lo xs.length lc, xs⟩] (hgS) (by omega) (by omega)
            rw [← hTB] at hO1
            have HO1 := Lib.hid hO1
            have HO2 := Lib.hid hO2
            have HMC : Hid (∀ sv W, MA w bt bm w1.heap.size (1 + (M : Int)) [oAct w5.heap.size ⟨op, an, am, tx, .slice lo xs.length lc, xs⟩] c' L' sv S' S W → W.cell? ⟨w1.heap.size, 0, none⟩ = some (.pointer (some ⟨bt, 0, none⟩)) ∧ W.cell? ⟨w1.heap.size, 1, none⟩ = some (.pointer (some ⟨bm, 0, none⟩))) := fun sv W h => h.cells
            have HEnd : Hid (∀ sv mv W, FA w bt bm w1.heap.size (1 + (M : Int)) [oAct w5.heap.size ⟨op, an, am, tx, .slice lo xs.length lc, xs⟩] c' L' sv mv S' W → Hid (Good (1 + (M : Int)) (8 * (k + 1 + 1)) S' ∧ L'.length ≤ 50000 + (k + 1)) ∧ FA w bt bm w1.heap.size (1 + (M : Int)) [] c' L' sv mv S' W) := fun sv mv W h =>
              ⟨⟨hg'.more (by omega), by omega⟩, h.forget⟩
            clear hO1 hO2 hg' hL' hgS hgL ha hPB hTB hrl HCP HBP h6
            go_wp2_with (go_at_call 11; refine (HP.out _).mono ?_; rintro e w6 ⟨rfl, rfl⟩)
            go_quiet (fail)
            have h9 := HBT.out _ _ _ _ hT6 (below_drewN (Below.refl _ _) nq)
            clear hT6
            generalize (w5.alloc (.cells #[.int .i64 op, .int .i64 an, .int .i64 am, .string tx, .slice lo xs.length lc] 41)).drewN nq = w9 at h9 ⊢
            obtain ⟨q0, q1, _, _, _⟩ := HCT.out _ _ _ h9
            go_wp2_with (first
              | (go_at_call 12; with_reducible refine (HO1.out _ h9).mono ?_; rintro e w10 ⟨sv', rfl, h10⟩; obtain ⟨r0, r1⟩ := HMC.out _ _ h10)
              | (go_at_call 13; with_reducible refine (HO2.out _ _ h10).mono ?_; rintro e w11 ⟨mv', rfl, h11⟩))
            obtain ⟨hE1, hE2⟩ := HEnd.out _ _ _ h11
            go_roundw
            case rel => exact ⟨k + 1, c', L', S', _, _, hlt, rfl, rfl, rfl, rfl, by go_num, hE1, hE2⟩
            case measure => simp [intOf]; omega
          · have hT6 : TB S S (w5.alloc (.cells #[.int .i64 op, .int .i64 an, .int .i64 am, .string tx, .slice lo xs.length lc] 41)) := by rw [hTB]; rw [hPB] at h6; exact h6.trees
            obtain ⟨SC, hSC⟩ : ∃ SC, SC = opC S an am := ⟨_, rfl⟩
            have hgC : Good (1 + (M : Int)) (8 * (k + 1)) SC := by rw [hSC]; exact hgS.opC an am
            have H1 : Hid (∀ W, TB S S W → Calls Tryz.prog 17 #[.pointer (some ⟨bt, 0, none⟩), .int .i64 an, .int .i64 am] W fun r W' => r = .returned (.tuple #[]) ∧ TB SC S W') := fun W h => by
              rw [hTB] at h ⊢
              rw [hSC]
              exact h.crash1 hgS an am (by have h9 : -9223372036854775808 ≤ am ∧ am ≤ 9223372036854775807 := ha.m; omega)
            have H2 : Hid (∀ W, TB SC S W → Calls Tryz.prog 18 #[.pointer (some ⟨bm, 0, none⟩), .int .i64 an, .int .i64 am] W fun r W' => r = .returned (.tuple #[]) ∧ TB SC SC W') := fun W h => by
              rw [hTB] at h ⊢
              have := h.crash2 hgS an am (by have h9 : -9223372036854775808 ≤ am ∧ am ≤ 9223372036854775807 := ha.m; omega)
              rw [← hSC] at this
              exact this
            obtain ⟨c', L', S', hg', hL', hO1, hO2⟩ := TA.opens w bt bm w1.heap.size [oAct w5.heap.size ⟨op, an, am, tx, .slice lo xs.length lc, xs⟩] (hgC) (by omega) (by omega)
            rw [← hTB] at hO1
            have HO1 := Lib.hid hO1
            have HO2 := Lib.hid hO2
            have HMC : Hid (∀ sv W, MA w bt bm w1.heap.size (1 + (M : Int)) [oAct w5.heap.size ⟨op, an, am, tx, .slice lo xs.length lc, xs⟩] c' L' sv S' SC W → W.cell? ⟨w1.heap.size, 0, none⟩ = some (.pointer (some ⟨bt, 0, none⟩)) ∧ W.cell? ⟨w1.heap.size, 1, none⟩ = some (.pointer (some ⟨bm, 0, none⟩))) := fun sv W h => h.cells
            have HEnd : Hid (∀ sv mv W, FA w bt bm w1.heap.size (1 + (M : Int)) [oAct w5.heap.size ⟨op, an, am, tx, .slice lo xs.length lc, xs⟩] c' L' sv mv S' W → Hid (Good (1 + (M : Int)) (8 * (k + 1 + 1)) S' ∧ L'.length ≤ 50000 + (k + 1)) ∧ FA w bt bm w1.heap.size (1 + (M : Int)) [] c' L' sv mv S' W) := fun sv mv W h =>
              ⟨⟨hg'.more (by omega), by omega⟩, h.forget⟩
            clear hO1 hO2 hg' hL' hgS hgL ha hPB hTB hrl HCP HBP h6 hgC hSC
            go_wp2_with (first
              | (go_at_call 11; refine (HP.out _).mono ?_; rintro e w6 ⟨rfl, rfl⟩)
              | (go_at_call 17; with_reducible refine (H1.out _ hT6).mono ?_; rintro e w7 ⟨rfl, h7⟩; obtain ⟨s0, s1, s2, s3, _⟩ := HCT.out _ _ _ h7)
              | (go_at_call 18; with_reducible refine (H2.out _ h7).mono ?_; rintro e w8 ⟨rfl, h8⟩))
            go_quiet (fail)
            have h9 := HBT.out _ _ _ _ h8 (below_drewN (Below.refl _ w8) nq)
            clear h8 h7 hT6
            generalize w8.drewN nq = w9 at h9 ⊢
            obtain ⟨q0, q1, _, _, _⟩ := HCT.out _ _ _ h9
            go_wp2_with (first
              | (go_at_call 12; with_reducible refine (HO1.out _ h9).mono ?_; rintro e w10 ⟨sv', rfl, h10⟩; obtain ⟨r0, r1⟩ := HMC.out _ _ h10)
              | (go_at_call 13; with_reducible refine (HO2.out _ _ h10).mono ?_; rintro e w11 ⟨mv', rfl, h11⟩))
            obtain ⟨hE1, hE2⟩ := HEnd.out _ _ _ h11
            go_roundw
            case rel => exact ⟨k + 1, c', L', S', _, _, hlt, rfl, rfl, rfl, rfl, by go_num, hE1, hE2⟩
            case measure => simp [intOf]; omega
          · have hT6 : TB S S (w5.alloc (.cells #[.int .i64 op, .int .i64 an, .int .i64 am, .string tx, .slice lo xs.length lc] 41)) := by rw [hTB]; rw [hPB] at h6; exact h6.trees
            obtain ⟨SA, hSA⟩ : ∃ SA, SA = (jAdd (1 + (M : Int)) S DBL (rawOf xs)).2 := ⟨_, rfl⟩
            obtain ⟨ca, hca⟩ : ∃ ca, ca = (jAdd (1 + (M : Int)) S DBL (rawOf xs)).1 := ⟨_, rfl⟩
            have hgA : Good (1 + (M : Int)) (8 * (k + 1) + 1) SA := by rw [hSA]; exact hgS.jAdd DBL (rawOf xs)
            have hxs : xs.length ≤ maxLen ∧ ∀ x ∈ xs, x.size ≤ 1000000 := ⟨ha.len, fun x hx => by have h9 : x.size ≤ 60 := ha.rows1 x hx; omega⟩
            have H1 : Hid (∀ W, TB S S W → Calls Tryz.prog 19 #[.pointer (some ⟨bt, 0, none⟩), .string ⟨#[100, 47, 98]⟩, .slice lo xs.length lc] W fun r W' => r = .returned (.int .i64 ca) ∧ TB SA S W') := fun W h => by
              rw [hTB] at h ⊢
              rw [hSA, hca]
              exact h.add1 hgS (by omega) _ xs hrl hxs
            have H2 : Hid (∀ W, TB SA S W → Calls Tryz.prog 20 #[.pointer (some ⟨bm, 0, none⟩), .string ⟨#[100, 47, 98]⟩, .slice lo xs.length lc] W fun r W' => r = .returned (.int .i64 ca) ∧ TB SA SA W') := fun W h => by
              rw [hTB] at h ⊢
              have := h.add2 hgS (by omega) _ xs hrl hxs
              rw [← hSA, ← hca] at this
              exact this
            obtain ⟨c', L', S', hg', hL', hO1, hO2⟩ := TA.opens w bt bm w1.heap.size [oAct w5.heap.size ⟨op, an, am, tx, .slice lo xs.length lc, xs⟩] (hgA) (by omega) (by omega)
            rw [← hTB] at hO1
            have HO1 := Lib.hid hO1
            have HO2 := Lib.hid hO2
            have HMC : Hid (∀ sv W, MA w bt bm w1.heap.size (1 + (M : Int)) [oAct w5.heap.size ⟨op, an, am, tx, .slice lo xs.length lc, xs⟩] c' L' sv S' SA W → W.cell? ⟨w1.heap.size, 0, none⟩ = some (.pointer (some ⟨bt, 0, none⟩)) ∧ W.cell? ⟨w1.heap.size, 1, none⟩ = some (.pointer (some ⟨bm, 0, none⟩))) := fun sv W h => h.cells
            have HEnd : Hid (∀ sv mv W, FA w bt bm w1.heap.size (1 + (M : Int)) [oAct w5.heap.size ⟨op, an, am, tx, .slice lo xs.length lc, xs⟩] c' L' sv mv S' W → Hid (Good (1 + (M : Int)) (8 * (k + 1 + 1)) S' ∧ L'.length ≤ 50000 + (k + 1)) ∧ FA w bt bm w1.heap.size (1 + (M : Int)) [] c' L' sv mv S' W) := fun sv mv W h =>
              ⟨⟨hg'.more (by omega), by omega⟩, h.forget⟩
            clear hO1 hO2 hg' hL' hgS hgL ha hPB hTB hrl HCP HBP h6 hgA hSA hca hxs
            have hT7 := HBT.out _ _ _ _ hT6 (below_drew (Below.refl _ _))
            clear hT6
            go_wp2_with (go_at_call 11; refine (HP.out _).mono ?_; rintro e w6 ⟨rfl, rfl⟩)
            go_region_held3 (fun W => W.cell? ⟨w1.heap.size, 0, none⟩ = some (.pointer (some ⟨bt, 0, none⟩)) ∧ W.cell? ⟨w1.heap.size, 1, none⟩ = some (.pointer (some ⟨bm, 0, none⟩)) ∧ W.cell? ⟨w5.heap.size, 4, none⟩ = some (.slice lo xs.length lc))
              (first | exact (fun h => ⟨h.1, h.2.1, h.2.2.2.2⟩) (HCT.out _ _ _ (show TB _ _ _ by assumption)))
              (first
                | (go_at_call 19; refine (H1.out _ (by assumption)).mono ?_; rintro e w7 ⟨rfl, h7⟩)
                | (go_at_call 20; refine (H2.out _ (by assumption)).mono ?_; rintro e w8 ⟨rfl, h9⟩))
            obtain ⟨q0, q1, _, _, _⟩ := HCT.out _ _ _ h9
            go_wp2_with (first
              | (go_at_call 12; with_reducible refine (HO1.out _ h9).mono ?_; rintro e w10 ⟨sv', rfl, h10⟩; obtain ⟨r0, r1⟩ := HMC.out _ _ h10)
              | (go_at_call 13; with_reducible refine (HO2.out _ _ h10).mono ?_; rintro e w11 ⟨mv', rfl, h11⟩))
            obtain ⟨hE1, hE2⟩ := HEnd.out _ _ _ h11
            go_roundw
            case rel => exact ⟨k + 1, c', L', S', _, _, hlt, rfl, rfl, rfl, rfl, by go_num, hE1, hE2⟩
            case measure => simp [intOf]; omega
        · have hkn : ((k : Int) == (xs1.length : Int)) = true := by simp; omega
          clear HX HO HG
          go_wp2_with (go_at_call 14; refine HA.out.mono ?_; rintro e w5 ⟨rfl, h5⟩)
          go_ret
          exact ⟨rfl, h5.back⟩
      · obtain ⟨p4, p5⟩ := hT.cells
        have HA := Lib.hid (hT.alike HG.out.1 (by omega))
        have hcc : (c != c) = false := by simp
        clear hT HX HO HG
        go_wp2_with (go_at_call 14; refine HA.out.mono ?_; rintro e w5 ⟨rfl, h5⟩)
        go_ret
        exact ⟨rfl, h5.back⟩

end Go.Proofs.YtchnbnmajagpjaaGreatDoor
