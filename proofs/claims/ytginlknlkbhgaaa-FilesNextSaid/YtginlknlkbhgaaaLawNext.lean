/-
  One change is kept more, and the tree is what it was behind one change more, up to all of them: for any changes. No condition.
-/
import Derived.Test.YtginlknlkbhgaaaRowP
import Derived.Test.YtginlknlkbhgaaaFActs
import Derived.Test.YtginlknlkbhgaaaFNext
namespace Go.Proofs.Ytginlknlkbhgaaa
open Go.ChangeShapes Go.WideShapes Go.ChangeAt Go.RowKit
open Go.Shelf Go.Maps

set_option maxRecDepth 100000 in
set_option maxHeartbeats 8000000 in
theorem filesNext_walk (v : Value) (al : List ActV) (hn : al.length ≤ maxLen) (hw : ∀ a ∈ al, ActW a) (w : World) (hr : ActsO w w.heap.size v al) :
    Calls Try.prog 10 #[v] w (LawPost w) := by
  obtain ⟨o, c, rfl, hx'⟩ := id hr
  clear hx'
  have HSh := Lib.hid (shown_at w)
  have HSm := Lib.hid (small_at hr hn hw)
  have HBg := Lib.hid (begun_at 3000 (by omega) (by omega) w)
  have hb0 : Below w.heap.size w w := Below.refl _ _
  cases hsm : smallB al with
  | false =>
    rw [hsm] at HSm
    clear hr hn hw hsm
    go_enter Try.func10, Try.ntmps10
    go_wp2_with (first
      | (go_at_call 11; refine (HSh.out _ hb0).mono ?_; rintro e w2 ⟨rfl, hb2⟩)
      | (go_at_call 12; refine (HSm.out _ hb2).mono ?_; rintro e w3 ⟨rfl, rfl⟩)
      | (go_at_call 13; refine (HBg.out _ hb2).mono ?_; rintro e w1 ⟨bt, bm, rfl, h0⟩))
    go_ret
    exact ⟨rfl, boxBack h0⟩
  | true =>
    rw [hsm] at HSm
    obtain ⟨hlen, hok⟩ := small_ok hsm hw
    have HX : Hid (ActsO w w.heap.size (.slice o al.length c) al) := hr
    have HO := Lib.hid hok
    have H0 : Hid (∀ w1 bt bm, Bx w w1.heap.size bt bm (pairW w1 bt bm) (ZB w w1) 3000 [(false, bt, (0, [], [], [])), (true, bm, (0, [], [], []))] (pairW w1 bt bm) → Calls Try.prog 26 #[.pointer (some ⟨bt, 0, none⟩)] (pairW w1 bt bm) fun r w8 => ∃ o q o' c' w10, r = .returned (.slice o 0 q) ∧
        (Builtin.append_ #[58, 58] 58 #[.slice none 0 0, .slice (some ⟨w8.heap.size, 0, none⟩) 1 1]).run Try.prog (w8.alloc (.cells #[.slice o 0 q] 45)) = .ok (.slice o' 1 c') w10 ∧
        ∃ vs Z5 P Q, NextAt w w1.heap.size bt bm w10 Z5 P Q (0, [], [], []) (.slice o' 1 c') vs w10) := by
      intro w1 bt bm h
      have hg0 : Good 3000 0 (0, [], [], []) := Good.new (by omega) (by omega)
      refine (h.files hg0 (by omega)).mono ?_
      rintro r w8 ⟨o, q, rfl, k2, k3, k4⟩
      obtain ⟨o', c', w10, hrun, Z', P', Q', q1, q2, q3, q4, q5, q6, q7, q8⟩ := next_push (S := (0, [], [], [])) (P := fun _ => False) (Q := fun _ => False) (vA := .slice none 0 0) (vs := []) h (fun _ h => h.elim) (fun _ h => h.elim) (fun _ h => h.elim) (fun _ h => h.elim) (RowR.nil _ _ _ _ _) (by intro j v hj; simp at hj) (by simp) k2 k3
      refine ⟨o, q, o', c', w10, rfl, hrun, _, Z', P', Q', ⟨q1, q2, q3, q4, q5, q6, rfl, ?_⟩⟩
      intro j v hj
      rcases j with _ | j
      · have : v = .slice o (filesOf (St.now (0, [], [], []))).length q := by simpa using hj.symm
        rw [this]; exact q8
      · simp at hj
    clear hr hn hw hsm hok
    go_enter Try.func10, Try.ntmps10
    go_wp2_with (first
      | (go_at_call 11; refine (HSh.out _ hb0).mono ?_; rintro e w2 ⟨rfl, hb2⟩)
      | (go_at_call 12; refine (HSm.out _ hb2).mono ?_; rintro e w3 ⟨rfl, rfl⟩)
      | (go_at_call 13; refine (HBg.out _ hb2).mono ?_; rintro e w1 ⟨bt, bm, rfl, h0⟩; have hm0 := boxAt h0)
      | (go_at_call 26; refine (H0.out _ _ _ h0.bx).mono ?_; rintro e w8 ⟨oA, qA, o1, c1, w10, rfl, hrun, vs0, Z0, P0, Q0, hN0⟩)
      | (at_builtin; refine wpList_append_eq rfl _ _ 58 rfl _ _ _ w10 rfl rfl hrun ?_))
    clear HSh HSm HBg H0
    go_loopw [8, 7] (fun i va wr => ∃ (k M : Nat) (S : St) (W5 : World) (Z5 P Q : Nat → Prop) (vs : List Value) (oa : Option Addr) (ca : Nat), k ≤ al.length ∧ i = .int .i64 k ∧ va = .slice oa (M + 1) ca ∧ Hid (M = S.pend.length) ∧ Good 3000 k S ∧ S.last = [] ∧ NextAt w w1.heap.size bt bm W5 Z5 P Q S (.slice oa (M + 1) ca) vs wr) (fun i _ _ => al.length - (intOf i).toNat)
    case atStart => exact ⟨0, 0, (0, [], [], []), _, _, _, _, _, _, _, Nat.zero_le _, rfl, rfl, rfl, Good.new (by omega) (by omega), rfl, hN0⟩
    case round =>
      obtain ⟨k, M, S, W5, Z5, P, Q, vs, oa, ca, hk, rfl, rfl, HM, hg, hlast, hN⟩ := hrel
      have hcr := hN.bx
      have hm1 := bxAt hcr
      have hMb : M ≤ 60 := by have := hg.pends; have : M = S.pend.length := HM.out; omega
      by_cases hlt : k < al.length
      · obtain ⟨b, f, rfl, hkc, hcell⟩ := acts_at HX.out (List.getElem?_eq_getElem hlt)
        have ha := HO.out _ (List.getElem_mem hlt)
        generalize al[k] = a at *
        have hi5 : (k : Int) < (al.length : Int) := by omega
        have hi6 : (0 : Int) ≤ (k : Int) := by omega
        have hk60 : k < 268435456 := by omega
        have hk61 : k + 1 < 268435456 := by omega
        have hcc := hcell wr (bxBack hcr)
        have HC : Hid (∀ l W, Bx w w1.heap.size bt bm W5 Z5 3000 l W → ActCells W b f k a) := fun l W h => hcell W (bxBack h)
        have HB : Hid (∀ l W, Bx w w1.heap.size bt bm W5 Z5 3000 l W → W.cell? ⟨w1.heap.size, 0, none⟩ = some (.pointer (some ⟨bt, 0, none⟩)) ∧ W.cell? ⟨w1.heap.size, 1, none⟩ = some (.pointer (some ⟨bm, 0, none⟩))) := fun l W h => bxAt h
        obtain ⟨q, hq⟩ : ∃ q, q = a.k := ⟨_, rfl⟩
        have HP : Hid (∀ W, Calls Try.prog 25 #[.int .i64 a.op, .int .i64 8] W fun e w' => e = .returned (.int .i64 q) ∧ W = w') := fun W => by
          have := pick_any a.op ha.op 8 (by omega) (by omega) W
          rw [hq]; exact this
        have HPd : Hid (∀ W, Bx w w1.heap.size bt bm W5 Z5 3000 [(false, bt, S), (true, bm, S)] W → Calls Try.prog 24 #[.pointer (some ⟨bt, 0, none⟩)] W fun r w' => r = .returned (.int .i64 M) ∧ W = w') := fun W h => by
          have := h.pending
          rw [← (show M = S.pend.length from HM.out)] at this
          exact this
        by_cases hq6 : 6 ≤ q
        · have hq7 : (6 : Int) ≤ (q : Int) := by omega
          have hgm : Good 3000 (k + 1) S := hg.more (by omega)
          clear ha hg hcell hq HX HO HC HB HPd hcr
          obtain ⟨op, an, am, ap, at'⟩ := a
          simp only [ActCells] at HP hcc
          obtain ⟨c0, c1', c2, c3, c4⟩ := hcc
          go_wp2_with (first | (go_at_call 25; refine (HP.out _).mono ?_; rintro e w4 ⟨rfl, rfl⟩))
          go_roundw
          case rel => exact ⟨k + 1, M, S, W5, Z5, P, Q, vs, oa, ca, hlt, by go_num, rfl, HM, hgm, hlast, hN⟩
          case measure => simp [intOf]; omega
        · have hq7 : ¬ (6 : Int) ≤ (q : Int) := by omega
          obtain ⟨hl', hcase⟩ := act_kept (room := 3000) (S := S) a (by omega)
          obtain ⟨S', hS'⟩ : ∃ S', S' = actS 3000 S a := ⟨_, rfl⟩
          rw [← hS'] at hl' hcase
          have hg' : Good 3000 (k + 1) S' := by rw [hS']; exact hg.act a
          have H4 : Hid (∀ W, Bx w w1.heap.size bt bm W5 Z5 3000 [(false, bt, S), (true, bm, S)] W → Calls Try.prog 17 #[.agg #[.pointer (some ⟨bt, 0, none⟩), .pointer (some ⟨bm, 0, none⟩)], .agg #[.int .i64 a.op, .int .i64 a.n, .int .i64 a.m, .string a.path, .string a.text]] W fun r w' => r = .returned (.bool true) ∧ Bx w w1.heap.size bt bm W5 Z5 3000 [(false, bt, S'), (true, bm, S')] w') := fun W h => by
            rw [hS']; exact h.does hg hk60 a ha
          have hcrd := Bx.below hcr (below_drew (Below.refl _ _))
          rcases hcase with hcase | ⟨cn, hcase⟩
          · -- nothing was done
            have HPd2 : Hid (∀ W, Bx w w1.heap.size bt bm W5 Z5 3000 [(false, bt, S'), (true, bm, S')] W → Calls Try.prog 24 #[.pointer (some ⟨bt, 0, none⟩)] W fun r w' => r = .returned (.int .i64 M) ∧ W = w') := fun W h => by
              have := h.pending
              rw [hcase, ← (show M = S.pend.length from HM.out)] at this
              exact this
            have HNx : Hid (∀ W, Bx w w1.heap.size bt bm W5 Z5 3000 [(false, bt, S'), (true, bm, S')] W → NextAt w w1.heap.size bt bm W5 Z5 P Q S' (.slice oa (M + 1) ca) vs W) := fun W h => by
              rw [hcase] at h ⊢; exact hN.goes h
            have HM2 : Hid (M = S'.pend.length) := by rw [hcase]; exact HM
            have hlast' : S'.last = [] := by rw [hl', hlast]
            have hne : ¬ (M : Int) = (M : Int) + 1 := by omega
            clear ha hg hS' hcell hq HX HO hcase hl' hlast hN HM
            obtain ⟨op, an, am, ap, at'⟩ := a
            simp only [ActCells] at HC H4 HP hcc
            obtain ⟨c0, c1', c2, c3, c4⟩ := hcc
            go_wp2_with (first
              | (go_at_call 25; refine (HP.out _).mono ?_; rintro e w4 ⟨rfl, rfl⟩)
              | (go_at_call 24; with_reducible refine (HPd.out _ hcr).mono ?_; rintro e w5 ⟨rfl, rfl⟩))
            go_region_held3 (fun W => W.cell? ⟨w1.heap.size, 0, none⟩ = some (.pointer (some ⟨bt, 0, none⟩)) ∧ W.cell? ⟨w1.heap.size, 1, none⟩ = some (.pointer (some ⟨bm, 0, none⟩)) ∧ W.cell? ⟨b, f + k * 5, none⟩ = some (.int .i64 op) ∧ W.cell? ⟨b, f + k * 5 + 1, none⟩ = some (.int .i64 an) ∧ W.cell? ⟨b, f + k * 5 + 2, none⟩ = some (.int .i64 am) ∧ W.cell? ⟨b, f + k * 5 + 3, none⟩ = some (.string ap) ∧ W.cell? ⟨b, f + k * 5 + 4, none⟩ = some (.string at'))
              (first | exact (fun h => ⟨(HB.out _ _ h).1, (HB.out _ _ h).2, HC.out _ _ h⟩) (show Bx w w1.heap.size bt bm W5 Z5 3000 _ _ by assumption))
              (first | (go_at_call 17; refine (H4.out _ (by assumption)).mono ?_; rintro e w7 ⟨rfl, h7⟩; have hm7 := bxAt h7))
            go_wp2_with (first
              | (go_at_call 24; with_reducible refine (HPd2.out _ h7).mono ?_; rintro e w8 ⟨rfl, rfl⟩))
            go_roundw
            case rel => exact ⟨k + 1, M, S', W5, Z5, P, Q, vs, oa, ca, hlt, by go_num, rfl, HM2, hg', hlast', HNx.out _ h7⟩
            case measure => simp [intOf]; omega
          · -- one change more
            have hMl : M = S.pend.length := HM.out
            have hpl : S'.pend.length = M + 1 := by rw [hcase, List.length_append, hMl]; rfl
            have HPd2 : Hid (∀ W, Bx w w1.heap.size bt bm W5 Z5 3000 [(false, bt, S'), (true, bm, S')] W → Calls Try.prog 24 #[.pointer (some ⟨bt, 0, none⟩)] W fun r w' => r = .returned (.int .i64 ((M : Int) + 1)) ∧ W = w') := fun W h => by
              have := h.pending
              rw [hpl] at this
              exact this
            obtain ⟨n8, hn8⟩ : ∃ n8, n8 = (filesOf S'.now).length := ⟨_, rfl⟩
            have hlast' : S'.last = [] := by rw [hl', hlast]
            have H5 : Hid (∀ W, Bx w w1.heap.size bt bm W5 Z5 3000 [(false, bt, S'), (true, bm, S')] W → Calls Try.prog 26 #[.pointer (some ⟨bt, 0, none⟩)] W fun r w8 => ∃ o q o' c' w10, r = .returned (.slice o n8 q) ∧
                (Builtin.append_ #[58, 58] 58 #[.slice oa (M + 1) ca, .slice (some ⟨w8.heap.size, 0, none⟩) 1 1]).run Try.prog (w8.alloc (.cells #[.slice o n8 q] 45)) = .ok (.slice o' (M + 1 + 1) c') w10 ∧
                ∃ vs' W6 Z6 P' Q', NextAt w w1.heap.size bt bm W6 Z6 P' Q' S' (.slice o' (M + 1 + 1) c') vs' w10) := fun W h => by
              have := h.files hg' hk61
              rw [← hn8] at this
              refine this.mono ?_
              rintro r w8 ⟨o, q, rfl, k2, k3, k4⟩
              have hvl : vs.length = M + 1 := by rw [hN.len, ← hMl]
              obtain ⟨o', c', w10, hrun, Z', P', Q', q1, q2, q3, q4, q5, q6, q7, q8⟩ := next_push h hN.pz hN.qz hN.pq hN.pw hN.row hN.rows (by omega) k2 k3
              rw [hvl] at hrun q6
              refine ⟨o, q, o', c', w10, rfl, hrun, _, w10, Z', P', Q', ⟨q1, q2, q3, q4, q5, q6, by rw [List.length_append, hvl, hpl]; rfl, ?_⟩⟩
              intro j v hj
              by_cases hjl : j < M + 1
              · rw [List.getElem?_append_left (by omega)] at hj
                rw [filesAt_old hcase hl' (by omega)]
                exact q7 j v hj
              · have hjl2 := (List.getElem?_eq_some_iff.1 hj).1
                rw [List.length_append, hvl] at hjl2
                have hjm : j = M + 1 := by simp at hjl2; omega
                rw [hjm, List.getElem?_append_right (by omega), hvl] at hj
                have hve : v = .slice o n8 q := by simpa using hj.symm
                rw [hve, hjm, ← hpl, filesAt_now hg']
                exact q8
            have HM2 : Hid (M + 1 = S'.pend.length) := hpl.symm
            clear ha hg hS' hcell hq HX HO hcase hl' hlast hN HM hMl hpl hn8
            obtain ⟨op, an, am, ap, at'⟩ := a
            simp only [ActCells] at HC H4 HP hcc
            obtain ⟨c0, c1', c2, c3, c4⟩ := hcc
            go_wp2_with (first
              | (go_at_call 25; refine (HP.out _).mono ?_; rintro e w4 ⟨rfl, rfl⟩)
              | (go_at_call 24; with_reducible refine (HPd.out _ hcr).mono ?_; rintro e w5 ⟨rfl, rfl⟩))
            go_region_held3 (fun W => W.cell? ⟨w1.heap.size, 0, none⟩ = some (.pointer (some ⟨bt, 0, none⟩)) ∧ W.cell? ⟨w1.heap.size, 1, none⟩ = some (.pointer (some ⟨bm, 0, none⟩)) ∧ W.cell? ⟨b, f + k * 5, none⟩ = some (.int .i64 op) ∧ W.cell? ⟨b, f + k * 5 + 1, none⟩ = some (.int .i64 an) ∧ W.cell? ⟨b, f + k * 5 + 2, none⟩ = some (.int .i64 am) ∧ W.cell? ⟨b, f + k * 5 + 3, none⟩ = some (.string ap) ∧ W.cell? ⟨b, f + k * 5 + 4, none⟩ = some (.string at'))
              (first | exact (fun h => ⟨(HB.out _ _ h).1, (HB.out _ _ h).2, HC.out _ _ h⟩) (show Bx w w1.heap.size bt bm W5 Z5 3000 _ _ by assumption))
              (first | (go_at_call 17; refine (H4.out _ (by assumption)).mono ?_; rintro e w7 ⟨rfl, h7⟩; have hm7 := bxAt h7))
            go_wp2_with (first
              | (go_at_call 24; with_reducible refine (HPd2.out _ h7).mono ?_; rintro e w8 ⟨rfl, rfl⟩)
              | (go_at_call 26; with_reducible refine (H5.out _ h7).mono ?_; rintro e w8 ⟨o8, q8, o9, c9, w10', rfl, hrun, vs', W6, Z6, P', Q', hN'⟩)
              | (at_builtin; refine wpList_append_eq rfl _ _ 58 rfl _ _ _ w10' rfl rfl hrun ?_))
            go_roundw
            case rel => exact ⟨k + 1, M + 1, S', W6, Z6, P', Q', vs', o9, c9, hlt, by go_num, rfl, HM2, hg', hlast', hN'⟩
            case measure => simp [intOf]; omega
      · have hk60 : k < 268435456 := by omega
        have HPd : Hid (∀ W, Bx w w1.heap.size bt bm W5 Z5 3000 [(false, bt, S), (true, bm, S)] W → Calls Try.prog 24 #[.pointer (some ⟨bt, 0, none⟩)] W fun r w' => r = .returned (.int .i64 M) ∧ W = w') := fun W h => by
          have := h.pending
          rw [← (show M = S.pend.length from HM.out)] at this
          exact this
        have HNn : Hid (NextAt w w1.heap.size bt bm W5 Z5 P Q S (.slice oa (M + 1) ca) vs wr) := hN
        have HGg := Lib.hid hg
        have HLa := Lib.hid hlast
        clear hN hg hlast HX HO
        go_wp2_with (first
          | (go_at_call 24; with_reducible refine (HPd.out _ hcr).mono ?_; rintro e w5 ⟨rfl, rfl⟩))
        clear HPd
        go_loopw [10] (fun i wr2 => ∃ j : Nat, j ≤ M + 1 ∧ i = .int .i64 j ∧ Bx w w1.heap.size bt bm W5 Z5 3000 [(false, bt, S), (true, bm, S)] wr2) (fun i _ => M + 1 - (intOf i).toNat)
        case atStart => exact ⟨0, Nat.zero_le _, rfl, hcr⟩
        case round =>
          obtain ⟨j, hj, rfl, hcr2⟩ := hrel
          by_cases hlt2 : j < M + 1
          · have hN := HNn.out
            have hg := HGg.out
            have hMl : M = S.pend.length := HM.out
            have hvl : vs.length = M + 1 := by rw [hN.len, ← hMl]
            obtain ⟨u, hu⟩ : ∃ u, vs[j]? = some u := ⟨_, List.getElem?_eq_getElem (by omega)⟩
            obtain ⟨hjc, ga, rfl, _⟩ := rowV_cell (hN.at hcr2).1 hu
            have HV : Hid (∀ l W, Bx w w1.heap.size bt bm W5 Z5 3000 l W → W.cell? ⟨ga, j, none⟩ = some u) := fun l W h => by
              obtain ⟨_, g2, hg2, hc2⟩ := rowV_cell (hN.at h).1 hu
              cases hg2
              exact hc2
            obtain ⟨SC, hSC⟩ : ∃ SC, SC = opC S j 0 := ⟨_, rfl⟩
            have hgC : Good 3000 k SC := by rw [hSC]; exact hg.opC _ _
            obtain ⟨F, hF⟩ : ∃ F, F = filesAt S j := ⟨_, rfl⟩
            have hFC : filesOf SC.now = F := by rw [hF, hSC]; show filesOf (crashL S j 0) = _; rw [crash_some_kept j (by omega)]; rfl
            have hFb : F.length < 1073741824 := by rw [← hFC]; unfold filesOf; have := hgC.files.len; simp; omega
            have HRu : Hid (∀ l W, Bx w w1.heap.size bt bm W5 Z5 3000 l W → RowA W Q u F) := fun l W h => by rw [hF]; exact (hN.at h).2 j u hu
            obtain ⟨ou, nu, cu, hue⟩ : ∃ o n c, u = .slice o n c := by
              obtain ⟨o, c, he, _⟩ := (HRu.out _ _ hcr2).shape (fun _ => rfl)
              exact ⟨o, _, c, he⟩
            subst hue
            have H1 : Hid (∀ W, Bx w w1.heap.size bt bm W5 Z5 3000 [(false, bt, S), (true, bm, S)] W → Calls Try.prog 14 #[.pointer (some ⟨bt, 0, none⟩)] W fun r w' => ∃ cc, r = .returned (.pointer (some ⟨cc, 0, none⟩)) ∧ Bx w w1.heap.size bt bm W5 Z5 3000 [(false, cc, S), (false, bt, S), (true, bm, S)] w') := fun W h => h.clone hg hk60
            have H2 : Hid (∀ cc W, Bx w w1.heap.size bt bm W5 Z5 3000 [(false, cc, S), (false, bt, S), (true, bm, S)] W → Calls Try.prog 16 #[.pointer (some ⟨cc, 0, none⟩), .int .i64 j, .int .i64 0] W fun r w' => r = .returned (.tuple #[]) ∧ Bx w w1.heap.size bt bm W5 Z5 3000 [(false, cc, SC), (false, bt, S), (true, bm, S)] w') := fun cc W h => by
              rw [hSC]; exact h.crash hg _ 0 (by omega)
            obtain ⟨nF, hnF⟩ : ∃ nF, nF = F.length := ⟨_, rfl⟩
            have H3 : Hid (∀ cc W, Bx w w1.heap.size bt bm W5 Z5 3000 [(false, cc, SC), (false, bt, S), (true, bm, S)] W → Calls Try.prog 26 #[.pointer (some ⟨cc, 0, none⟩)] W fun r w' => ∃ o q, r = .returned (.slice o nF q) ∧ RowA w' (fun n => W.heap.size ≤ n) (.slice o nF q) F ∧ Bx w w1.heap.size bt bm W5 Z5 3000 [(false, cc, SC), (false, bt, S), (true, bm, S)] w') := fun cc W h => by
              have := h.files hgC hk60
              rw [hFC, ← hnF] at this
              exact this.mono fun _ _ ⟨o, q, k1, k2, k3, k4⟩ => ⟨o, q, k1, k2, k4⟩
            have H4 : Hid (∀ cc W P o q, Bx w w1.heap.size bt bm W5 Z5 3000 [(false, cc, SC), (false, bt, S), (true, bm, S)] W → RowA W P (.slice o nF q) F → Calls Try.prog 27 #[.slice o nF q, .slice ou nu cu] W fun e w' => e = .returned (.bool true) ∧ Bx w w1.heap.size bt bm W5 Z5 3000 [(false, cc, SC), (false, bt, S), (true, bm, S)] w') := fun cc W P o q h h2 => (same_eq _ _ _ Q F W h2 (HRu.out _ _ h) hFb).mono fun _ _ k => ⟨k.1, Bx.below h k.2⟩
            have H5 : Hid (∀ cc W, Bx w w1.heap.size bt bm W5 Z5 3000 [(false, cc, SC), (false, bt, S), (true, bm, S)] W → Calls Try.prog 24 #[.pointer (some ⟨cc, 0, none⟩)] W fun r w' => r = .returned (.int .i64 0) ∧ Bx w w1.heap.size bt bm W5 Z5 3000 [(false, cc, SC), (false, bt, S), (true, bm, S)] w') := fun cc W h => by
              have := h.pending
              rw [show SC.pend.length = 0 from by rw [hSC]; rfl] at this
              exact this.mono fun _ _ q => ⟨q.1, by rw [← q.2]; exact h⟩
            have hm2 := bxAt hcr2
            have hj8 : (j : Int) < (M : Int) + 1 := by omega
            have hj9 : (0 : Int) ≤ (j : Int) := by omega
            clear hN hg hMl hvl hu hSC hgC hF hFC hFb hnF
            go_wp2_with (first
              | (go_at_call 14; with_reducible refine (H1.out _ hcr2).mono ?_; rintro e w11 ⟨cc, rfl, h11⟩)
              | (go_at_call 16; with_reducible refine (H2.out _ _ h11).mono ?_; rintro e w12 ⟨rfl, h12⟩; have h12d := Bx.below h12 (below_drew (Below.refl _ _))))
            go_region_held3 (fun W => W.cell? ⟨ga, j, none⟩ = some (.slice ou nu cu))
              (first | exact HV.out _ _ (show Bx w w1.heap.size bt bm W5 Z5 3000 _ _ by assumption))
              (first
                | (go_at_call 26; refine (H3.out _ _ (by assumption)).mono ?_; rintro r w13 ⟨o13, q13, rfl, r13, h13⟩)
                | (go_at_call 27; refine (H4.out _ _ _ _ _ h13 r13).mono ?_; rintro r w14 ⟨rfl, h14⟩)
                | (go_at_call 24; refine (H5.out _ _ h14).mono ?_; rintro r w15 ⟨rfl, h15⟩))
            all_goals (
              go_wp2
              go_roundw
              case rel => exact ⟨j + 1, hlt2, by go_num, Bx.tail h15⟩
              case measure => simp [intOf]; omega)
          · clear HNn HGg HLa HM
            go_wp2
            go_ret
            exact ⟨rfl, bxBack hcr2⟩

set_option maxRecDepth 100000 in
theorem filesNext_lifted (os : Os) (started : os.Started) (H : Type) (enc : TypeId × Value → H) :
    ReturnsInHanded {} Try.checked os 10 .any (Rows.filesNextSpec.pre6 enc Try.prog Try.f10 Rows.filesNextRow.domain false) (Rows.filesNextSpec.post enc Try.prog Try.f10 false true false false) := by
  refine returnsInHanded_of_change (C := Try.checked) own_knob started (by kernel_rfl) Try.func10
    (ChangeSpec.witness6 (enc := enc) (C := Try.checked) false ⟨#[], #[.slice none 0 0], []⟩ 8 (by kernel_rfl) (by kernel_rfl) (by kernel_rfl) (by kernel_rfl)) ?_
  intro W base args ds gs before hval0 hW _ _
  have hval : ∀ (j : Nat) t v, Try.f10.params[j]? = some t → args[j]? = some v → Value.okWide Try.prog W .any base t v := hval0
  have hW' := hW
  obtain ⟨p, q, hA0, hV, rfl, hfz, hnd⟩ := hW
  have hA : DataW.TrodAll enc Try.prog W 0 (fun _ => true) true Try.f10.params.toList args.toList ds p := hA0
  rw [Try.params10] at hA hval
  obtain ⟨v0, d0, rfl, rfl, h0⟩ := trodAll_one hA
  obtain ⟨rfl, rfl⟩ := trodVars_none hV
  clear hA0 hval0
  simp only [List.append_nil] at hW'
  have hlt := fun x hx => hW'.lt x hx
  obtain ⟨⟨al0, hn0, hw0, hr0⟩, hback0⟩ := open_acts (hval 0 22 v0 rfl rfl) h0 (fun x hx => hlt x (by simp [hx]))
  refine (filesNext_walk v0 al0 hn0 hw0 W hr0).mono fun e W' h => ⟨.bool true, h.1, ?_⟩
  exact post_true_at hW' rfl (by kernel_rfl) Try.underlying4 rfl (trodAll_mk1 (hback0 W' h.2)) h.2

theorem filesNext_holds : Rows.FilesNextSaid :=
  OpenClaim.holds_of_wide 10 Try.f10 rfl rfl rfl rfl rfl rfl rfl ⟨rfl, rfl, rfl, rfl, rfl⟩ rfl rfl rfl rfl rfl (by kernel_rfl) Try.func10 (by kernel_rfl)
    (of_decide_eq_true (by kernel_rfl)) (by unfold Func.isWrapper; first | (rw [if_pos (by decide +kernel)]; kernel_rfl) | (rw [if_neg (by decide +kernel)]; exact ⟨rfl, rfl⟩))
    (fun os started H enc _ => filesNext_lifted os started H enc)

end Go.Proofs.Ytginlknlkbhgaaa
