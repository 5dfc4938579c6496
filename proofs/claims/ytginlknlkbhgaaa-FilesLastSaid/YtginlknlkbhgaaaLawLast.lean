/-
  What was synced is there, just as it was, behind a crash that keeps nothing; behind one that keeps all, all is: for any row of acts, wherever the sync is. No condition.
-/
import Derived.Test.YtginlknlkbhgaaaRowP
import Derived.Test.YtginlknlkbhgaaaFActs
import Derived.Test.YtginlknlkbhgaaaFLaws2
import Derived.Test.YtginlknlkbhgaaaFPure
import Derived.Test.YtginlknlkbhgaaaFLaw2b
namespace Go.Proofs.Ytginlknlkbhgaaa
open Go.ChangeShapes Go.WideShapes Go.ChangeAt Go.RowKit
open Go.Shelf Go.Maps

theorem Bx.doesb {w W1 W : World} {pb bt bm b c : Nat} {Z : Nat → Prop} {room : Int} {l : List Ent} {n : Nat} {S T : St} (h : Bx w pb bt bm W1 Z room ((false, b, S) :: (true, c, T) :: l) W) (hg : Good room n S) (hg2 : Good room n T) (hn : n < 268435456) (a : ActV) (ha : ActOk a) (hk : a.k < 6) :
    Calls Try.prog 17 #[.agg #[.pointer (some ⟨b, 0, none⟩), .pointer (some ⟨c, 0, none⟩)], .agg (actCells a).toArray] W fun r w' => (∃ z, r = .returned (.bool z)) ∧ Bx w pb bt bm W1 Z room ((false, b, actS room S a) :: (true, c, actS room T a) :: l) w' :=
  (h.1.two (Q := fun r => ∃ z, r = .returned (.bool z)) fun X Y hX hY hd => doesb_any X Y b c room n S T a W hX hY hd hg hg2 hn ha hk).mono fun _ _ k => ⟨k.1, k.2, h.2⟩


set_option maxRecDepth 100000 in
set_option maxHeartbeats 8000000 in
theorem filesLast_walk (v : Value) (al : List ActV) (hn : al.length ≤ maxLen) (hw : ∀ a ∈ al, ActW a) (pos : Int) (hpos : -9223372036854775808 ≤ pos ∧ pos ≤ 9223372036854775807) (w : World) (hr : ActsO w w.heap.size v al) :
    Calls Try.prog 5 #[v, .int .i64 pos] w (LawPost w) := by
  obtain ⟨o, c, rfl, hx'⟩ := id hr
  clear hx'
  have HSh := Lib.hid (shown_at w)
  have HSm := Lib.hid (small_at hr hn hw)
  have HBg := Lib.hid (begun_at 1048576 (by omega) (by omega) w)
  have hb0 : Below w.heap.size w w := Below.refl _ _
  cases hsm : smallB al with
  | false =>
    rw [hsm] at HSm
    clear hr hn hw hsm
    go_enter Try.func5, Try.ntmps5
    go_wp2_with (first
      | (go_at_call 11; refine (HSh.out _ hb0).mono ?_; rintro e w2 ⟨rfl, hb2⟩)
      | (go_at_call 12; refine (HSm.out _ hb2).mono ?_; rintro e w3 ⟨rfl, rfl⟩)
      | (go_at_call 13; refine (HBg.out _ hb2).mono ?_; rintro e w1 ⟨bt, bm, rfl, h0⟩))
    go_ret
    exact ⟨rfl, boxBack h0⟩
  | true =>
    rw [hsm] at HSm
    obtain ⟨hlen, hok⟩ := small_ok hsm hw
    obtain ⟨K, hK⟩ : ∃ K, K = pickZ pos (al.length + 1) := ⟨_, rfl⟩
    have hKl : K ≤ al.length := by have : pickZ pos (al.length + 1) < al.length + 1 := Nat.mod_lt _ (by omega); omega
    have HPk : Hid (∀ W, Calls Try.prog 25 #[.int .i64 pos, .int .i64 ((al.length : Int) + 1)] W fun e w' => e = .returned (.int .i64 K) ∧ W = w') := by
      intro W
      have := pick_any pos hpos (al.length + 1) (by omega) (by omega) W
      rw [← hK] at this
      exact this
    have HX : Hid (ActsO w w.heap.size (.slice o al.length c) al) := hr
    have HO := Lib.hid hok
    have HX2 := Lib.hid hr
    have HO2 := Lib.hid hok
    clear hr hn hw hsm hok hK hpos
    go_enter Try.func5, Try.ntmps5
    go_wp2_with (first
      | (go_at_call 11; refine (HSh.out _ hb0).mono ?_; rintro e w2 ⟨rfl, hb2⟩)
      | (go_at_call 12; refine (HSm.out _ hb2).mono ?_; rintro e w3 ⟨rfl, rfl⟩)
      | (go_at_call 13; refine (HBg.out _ hb2).mono ?_; rintro e w1 ⟨bt, bm, rfl, h0⟩)
      | (go_at_call 25; refine (HPk.out _).mono ?_; rintro e w4 ⟨rfl, rfl⟩))
    clear HSh HSm HBg HPk
    go_loopw [10] (fun i wr => ∃ (k : Nat) (S : St), k ≤ K ∧ i = .int .i64 k ∧ Good 1048576 k S ∧ Bx w w1.heap.size bt bm (pairW w1 bt bm) (ZB w w1) 1048576 [(false, bt, S), (true, bm, S)] wr) (fun i _ => K - (intOf i).toNat)
    case atStart => exact ⟨0, _, Nat.zero_le _, rfl, Good.new (by omega) (by omega), h0.bx⟩
    case round =>
      obtain ⟨k, S, hk, rfl, hg, hcr⟩ := hrel
      by_cases hltK : k < K
      · have hlt : k < al.length := by omega
        have hi8 : (k : Int) < (K : Int) := by omega
        obtain ⟨b, f, rfl, hkc, hcell⟩ := acts_at HX.out (List.getElem?_eq_getElem hlt)
        have ha := HO.out _ (List.getElem_mem hlt)
        generalize al[k] = a at *
        have hi5 : (k : Int) < (al.length : Int) := by omega
        have hi6 : (0 : Int) ≤ (k : Int) := by omega
        have hk60 : k < 268435456 := by omega
        have HC : Hid (∀ l W, Bx w w1.heap.size bt bm (pairW w1 bt bm) (ZB w w1) 1048576 l W → ActCells W b f k a) := fun l W h => hcell W (bxBack h)
        have HB : Hid (∀ l W, Bx w w1.heap.size bt bm (pairW w1 bt bm) (ZB w w1) 1048576 l W → W.cell? ⟨w1.heap.size, 0, none⟩ = some (.pointer (some ⟨bt, 0, none⟩)) ∧ W.cell? ⟨w1.heap.size, 1, none⟩ = some (.pointer (some ⟨bm, 0, none⟩))) := fun l W h => bxAt h
        obtain ⟨S', hS'⟩ : ∃ S', S' = actS 1048576 S a := ⟨_, rfl⟩
        have hg' : Good 1048576 (k + 1) S' := by rw [hS']; exact hg.act a
        have H4 : Hid (∀ W, Bx w w1.heap.size bt bm (pairW w1 bt bm) (ZB w w1) 1048576 [(false, bt, S), (true, bm, S)] W → Calls Try.prog 17 #[.agg #[.pointer (some ⟨bt, 0, none⟩), .pointer (some ⟨bm, 0, none⟩)], .agg #[.int .i64 a.op, .int .i64 a.n, .int .i64 a.m, .string a.path, .string a.text]] W fun r w' => r = .returned (.bool true) ∧ Bx w w1.heap.size bt bm (pairW w1 bt bm) (ZB w w1) 1048576 [(false, bt, S'), (true, bm, S')] w') := fun W h => by
          rw [hS']; exact h.does hg hk60 a ha
        have hcrd := Bx.below hcr (below_drew (Below.refl _ _))
        clear ha hg hS' hcell HX HO HX2 HO2 
        obtain ⟨op, an, am, ap, at'⟩ := a
        simp only [ActCells] at HC H4
        go_wp2
        go_region_held3 (fun W => W.cell? ⟨w1.heap.size, 0, none⟩ = some (.pointer (some ⟨bt, 0, none⟩)) ∧ W.cell? ⟨w1.heap.size, 1, none⟩ = some (.pointer (some ⟨bm, 0, none⟩)) ∧ W.cell? ⟨b, f + k * 5, none⟩ = some (.int .i64 op) ∧ W.cell? ⟨b, f + k * 5 + 1, none⟩ = some (.int .i64 an) ∧ W.cell? ⟨b, f + k * 5 + 2, none⟩ = some (.int .i64 am) ∧ W.cell? ⟨b, f + k * 5 + 3, none⟩ = some (.string ap) ∧ W.cell? ⟨b, f + k * 5 + 4, none⟩ = some (.string at'))
          (first | exact (fun h => ⟨(HB.out _ _ h).1, (HB.out _ _ h).2, HC.out _ _ h⟩) (show Bx w w1.heap.size bt bm (pairW w1 bt bm) (ZB w w1) 1048576 _ _ by assumption))
          (first | (go_at_call 17; refine (H4.out _ (by assumption)).mono ?_; rintro e w7 ⟨rfl, h7⟩))
        go_wp2
        go_roundw
        case rel => exact ⟨k + 1, S', hltK, by go_num, hg', h7⟩
        case measure => simp [intOf]; omega
      · have hkK : k = K := by omega
        subst hkK
        have hk60 : k + 9 < 268435456 := by omega
        have hm1 := bxAt hcr
        have H1 : Hid (∀ W, Bx w w1.heap.size bt bm (pairW w1 bt bm) (ZB w w1) 1048576 [(false, bt, S), (true, bm, S)] W → Calls Try.prog 22 #[.pointer (some ⟨bt, 0, none⟩)] W fun r w' => r = .returned (.tuple #[]) ∧ Bx w w1.heap.size bt bm (pairW w1 bt bm) (ZB w w1) 1048576 [(false, bt, opS S), (true, bm, S)] w') := fun W h => h.sync hg
        obtain ⟨F1, hF1⟩ : ∃ F1, F1 = filesOf S.now := ⟨_, rfl⟩
        have hF1b : F1.length < 1073741824 := by rw [hF1]; unfold filesOf; have := hg.files.len; simp; omega
        obtain ⟨n1, hn1⟩ : ∃ n1, n1 = F1.length := ⟨_, rfl⟩
        have H2 : Hid (∀ W, Bx w w1.heap.size bt bm (pairW w1 bt bm) (ZB w w1) 1048576 [(false, bt, opS S), (true, bm, S)] W → Calls Try.prog 26 #[.pointer (some ⟨bt, 0, none⟩)] W fun r w5 => ∃ o q Z5 P5, r = .returned (.slice o n1 q) ∧ Bx w w1.heap.size bt bm w5 Z5 1048576 [(false, bt, opS S), (true, bm, S)] w5 ∧ (∀ n, Z5 n → ¬ P5 n) ∧ RowA w5 P5 (.slice o n1 q) F1) := fun W h => by
          have := h.files hg.opS (by omega)
          rw [show (opS S).now = S.now from rfl, ← hF1, ← hn1] at this
          refine this.mono ?_
          rintro r w5 ⟨o, q, k1, k2, k3, k4⟩
          obtain ⟨Z5, p1, p2, p3⟩ := h.prot k3
          exact ⟨o, q, Z5, _, k1, p1, fun n hz hp => p2 n hp.1 hp.2 hz, RowR.tight k2⟩
        have HGs := Lib.hid hg
        have HF1 := Lib.hid hF1
        have HF1b := Lib.hid hF1b
        have HN1 := Lib.hid hn1
        clear hg hF1 hF1b hn1
        go_wp2_with (first
          | (go_at_call 22; refine (H1.out _ hcr).mono ?_; rintro e w6 ⟨rfl, h6⟩; have hm6 := bxAt h6)
          | (go_at_call 26; refine (H2.out _ h6).mono ?_; rintro e w5 ⟨oA, cA, Z5, P5, rfl, h5, hz5, r5⟩; have HZ5 := Lib.hid hz5; have HR5 := Lib.hid r5; clear hz5 r5))
        clear H1 H2 hm1
        go_loopw [12] (fun i wr => ∃ (j : Nat) (S2 T2 : St), j ≤ al.length ∧ i = .int .i64 j ∧ Good 1048576 j S2 ∧ Good 1048576 j T2 ∧ S2.last = S.now ∧ Bx w w1.heap.size bt bm w5 Z5 1048576 [(false, bt, S2), (true, bm, T2)] wr) (fun i _ => al.length - (intOf i).toNat)
        case atStart => exact ⟨k, opS S, S, hKl, rfl, HGs.out.opS, HGs.out, rfl, h5⟩
        case round =>
          obtain ⟨j, S2, T2, hj, rfl, hg, hgT, hlast, hcr2⟩ := hrel
          by_cases hlt : j < al.length
          · obtain ⟨b, f, rfl, hkc, hcell⟩ := acts_at HX2.out (List.getElem?_eq_getElem hlt)
            have ha := HO2.out _ (List.getElem_mem hlt)
            generalize al[j] = a at *
            have hi5 : (j : Int) < (al.length : Int) := by omega
            have hi6 : (0 : Int) ≤ (j : Int) := by omega
            have hj60 : j < 268435456 := by omega
            have HC : Hid (∀ l W, Bx w w1.heap.size bt bm w5 Z5 1048576 l W → ActCells W b f j a) := fun l W h => hcell W (bxBack h)
            have HB : Hid (∀ l W, Bx w w1.heap.size bt bm w5 Z5 1048576 l W → W.cell? ⟨w1.heap.size, 0, none⟩ = some (.pointer (some ⟨bt, 0, none⟩)) ∧ W.cell? ⟨w1.heap.size, 1, none⟩ = some (.pointer (some ⟨bm, 0, none⟩))) := fun l W h => bxAt h
            obtain ⟨S', hS'⟩ : ∃ S', S' = actS 1048576 S2 a := ⟨_, rfl⟩
            obtain ⟨T', hT'⟩ : ∃ T', T' = actS 1048576 T2 a := ⟨_, rfl⟩
            have hg' : Good 1048576 (j + 1) S' := by rw [hS']; exact hg.act a
            have hgT' : Good 1048576 (j + 1) T' := by rw [hT']; exact hgT.act a
            obtain ⟨q, hq⟩ : ∃ q, q = a.k := ⟨_, rfl⟩
            have HP : Hid (∀ W, Calls Try.prog 25 #[.int .i64 a.op, .int .i64 8] W fun e w' => e = .returned (.int .i64 q) ∧ W = w') := fun W => by
              have := pick_any a.op ha.op 8 (by omega) (by omega) W
              rw [hq]; exact this
            by_cases hq6 : q < 6
            · have hq7 : (q : Int) < 6 := by omega
              have hlast' : S'.last = S.now := by rw [hS', (act_kept a (by omega)).1, hlast]
              have H4 : Hid (∀ W, Bx w w1.heap.size bt bm w5 Z5 1048576 [(false, bt, S2), (true, bm, T2)] W → Calls Try.prog 17 #[.agg #[.pointer (some ⟨bt, 0, none⟩), .pointer (some ⟨bm, 0, none⟩)], .agg #[.int .i64 a.op, .int .i64 a.n, .int .i64 a.m, .string a.path, .string a.text]] W fun r w' => (∃ z, r = .returned (.bool z)) ∧ Bx w w1.heap.size bt bm w5 Z5 1048576 [(false, bt, S'), (true, bm, T')] w') := fun W h => by
                rw [hS', hT']; exact h.doesb hg hgT hj60 a ha (by omega)
              have hcrd := Bx.below hcr2 (below_drew (Below.refl _ _))
              have hcc := HC.out _ _ hcr2
              clear ha hg hgT hS' hT' hcell HX HO HX2 HO2 hq hlast
              obtain ⟨op, an, am, ap, at'⟩ := a
              simp only [ActCells] at HC H4 HP hcc
              obtain ⟨c0, c1, c2, c3, c4⟩ := hcc
              go_wp2_with (first | (go_at_call 25; refine (HP.out _).mono ?_; rintro e w4 ⟨rfl, rfl⟩))
              go_region_held3 (fun W => W.cell? ⟨w1.heap.size, 0, none⟩ = some (.pointer (some ⟨bt, 0, none⟩)) ∧ W.cell? ⟨w1.heap.size, 1, none⟩ = some (.pointer (some ⟨bm, 0, none⟩)) ∧ W.cell? ⟨b, f + j * 5, none⟩ = some (.int .i64 op) ∧ W.cell? ⟨b, f + j * 5 + 1, none⟩ = some (.int .i64 an) ∧ W.cell? ⟨b, f + j * 5 + 2, none⟩ = some (.int .i64 am) ∧ W.cell? ⟨b, f + j * 5 + 3, none⟩ = some (.string ap) ∧ W.cell? ⟨b, f + j * 5 + 4, none⟩ = some (.string at'))
                (first | exact (fun h => ⟨(HB.out _ _ h).1, (HB.out _ _ h).2, HC.out _ _ h⟩) (show Bx w w1.heap.size bt bm w5 Z5 1048576 _ _ by assumption))
                (first | (go_at_call 17; refine (H4.out _ (by assumption)).mono ?_; rintro e w7 ⟨⟨z, rfl⟩, h7⟩))
              go_wp2
              go_roundw
              case rel => exact ⟨j + 1, S', T', hlt, by go_num, hg', hgT', hlast', h7⟩
              case measure => simp [intOf]; omega
            · have hq7 : ¬ (q : Int) < 6 := by omega
              have hgm : Good 1048576 (j + 1) S2 := hg.more (by omega)
              have hgTm : Good 1048576 (j + 1) T2 := hgT.more (by omega)
              have hcc := HC.out _ _ hcr2
              clear ha hg hgT hS' hT' hcell HX HO HX2 HO2 hq
              obtain ⟨op, an, am, ap, at'⟩ := a
              simp only [ActCells] at HC HP hcc
              obtain ⟨c0, c1, c2, c3, c4⟩ := hcc
              go_wp2_with (first | (go_at_call 25; refine (HP.out _).mono ?_; rintro e w4 ⟨rfl, rfl⟩))
              go_roundw
              case rel => exact ⟨j + 1, S2, T2, hlt, by go_num, hgm, hgTm, hlast, hcr2⟩
              case measure => simp [intOf]; omega
          · have hj60 : j < 268435456 := by omega
            have hm2 := bxAt hcr2
            obtain ⟨F2, hF2⟩ : ∃ F2, F2 = filesOf S2.now := ⟨_, rfl⟩
            have hF2b : F2.length < 1073741824 := by rw [hF2]; unfold filesOf; have := hg.files.len; simp; omega
            obtain ⟨n2, hn2⟩ : ∃ n2, n2 = F2.length := ⟨_, rfl⟩
            obtain ⟨M, hM⟩ : ∃ M, M = S2.pend.length := ⟨_, rfl⟩
            have hMm : M ≤ 268435456 := by rw [hM]; have := hg.pends; omega
            obtain ⟨SP, hSP⟩ : ∃ SP, SP = opC S2 0 0 := ⟨_, rfl⟩
            obtain ⟨SC, hSC⟩ : ∃ SC, SC = opC S2 M 0 := ⟨_, rfl⟩
            have hgP : Good 1048576 j SP := by rw [hSP]; exact hg.opC _ _
            have hgC : Good 1048576 j SC := by rw [hSC]; exact hg.opC _ _
            have hnP : filesOf SP.now = F1 := by rw [HF1.out, hSP]; show filesOf (crashL S2 0 0) = _; rw [crash_zero, hlast]
            have hnC : filesOf SC.now = F2 := by rw [hF2, hSC]; show filesOf (crashL S2 M 0) = _; rw [hM, crash_every hg]
            have H2 : Hid (∀ W, Bx w w1.heap.size bt bm w5 Z5 1048576 [(false, bt, S2), (true, bm, T2)] W → Calls Try.prog 26 #[.pointer (some ⟨bt, 0, none⟩)] W fun r w6 => ∃ o q Z6 P6 P5', r = .returned (.slice o n2 q) ∧ Bx w w1.heap.size bt bm w6 Z6 1048576 [(false, bt, S2), (true, bm, T2)] w6 ∧ ∀ l W, Bx w w1.heap.size bt bm w6 Z6 1048576 l W → RowA W P6 (.slice o n2 q) F2 ∧ RowA W P5' (.slice oA n1 cA) F1) := fun W h => by
              have := h.files hg hj60
              rw [← hF2, ← hn2] at this
              refine this.mono ?_
              rintro r w6 ⟨o, q, k1, k2, k3, k4⟩
              obtain ⟨Z6, p1, p2, p3⟩ := h.prot k3
              refine ⟨o, q, Z6, _, P5, k1, p1, fun l W' h' => ⟨h'.krow p2 k2 (fun n hn => hn), ?_⟩⟩
              exact RowR.kept (RowR.kept HR5.out k4.1.1 (fun n hn hz => HZ5.out n hz hn)) h'.1.1 (fun n hn hz => HZ5.out n (p3 n hz) hn)
            have H3 : Hid (∀ W1 Z W, Bx w w1.heap.size bt bm W1 Z 1048576 [(false, bt, S2), (true, bm, T2)] W → Calls Try.prog 14 #[.pointer (some ⟨bt, 0, none⟩)] W fun r w' => ∃ c, r = .returned (.pointer (some ⟨c, 0, none⟩)) ∧ Bx w w1.heap.size bt bm W1 Z 1048576 [(false, c, S2), (false, bt, S2), (true, bm, T2)] w') := fun W1 Z W h => h.clone hg hj60
            have H4 : Hid (∀ W1 Z cc W, Bx w w1.heap.size bt bm W1 Z 1048576 [(false, cc, S2), (false, bt, S2), (true, bm, T2)] W → Calls Try.prog 24 #[.pointer (some ⟨bt, 0, none⟩)] W fun r w' => r = .returned (.int .i64 M) ∧ W = w') := fun W1 Z cc W h => by rw [hM]; exact h.swap.pending
            have H5 : Hid (∀ W1 Z cc W, Bx w w1.heap.size bt bm W1 Z 1048576 [(false, cc, S2), (false, bt, S2), (true, bm, T2)] W → Calls Try.prog 16 #[.pointer (some ⟨cc, 0, none⟩), .int .i64 M, .int .i64 0] W fun r w' => r = .returned (.tuple #[]) ∧ Bx w w1.heap.size bt bm W1 Z 1048576 [(false, bt, S2), (false, cc, SC), (true, bm, T2)] w') := fun W1 Z cc W h => by rw [hSC]; exact (h.crash hg _ 0 (by omega)).mono fun _ _ q => ⟨q.1, q.2.swap⟩
            have H6 : Hid (∀ W1 Z cc W, Bx w w1.heap.size bt bm W1 Z 1048576 [(false, bt, S2), (false, cc, SC), (true, bm, T2)] W → Calls Try.prog 16 #[.pointer (some ⟨bt, 0, none⟩), .int .i64 0, .int .i64 0] W fun r w' => r = .returned (.tuple #[]) ∧ Bx w w1.heap.size bt bm W1 Z 1048576 [(false, bt, SP), (false, cc, SC), (true, bm, T2)] w') := fun W1 Z cc W h => by rw [hSP]; exact h.crash hg 0 0 (by omega)
            have H7 : Hid (∀ W1 Z cc W, Bx w w1.heap.size bt bm W1 Z 1048576 [(false, bt, SP), (false, cc, SC), (true, bm, T2)] W → Calls Try.prog 26 #[.pointer (some ⟨bt, 0, none⟩)] W fun r w' => ∃ o q, r = .returned (.slice o n1 q) ∧ RowA w' (fun n => W.heap.size ≤ n) (.slice o n1 q) F1 ∧ Bx w w1.heap.size bt bm W1 Z 1048576 [(false, bt, SP), (false, cc, SC), (true, bm, T2)] w') := fun W1 Z cc W h => by
              have := h.files hgP hj60
              rw [hnP, ← (show n1 = F1.length from HN1.out)] at this
              exact this.mono fun _ _ ⟨o, q, k1, k2, k3, k4⟩ => ⟨o, q, k1, k2, k4⟩
            have H8 : Hid (∀ W1 Z cc W, Bx w w1.heap.size bt bm W1 Z 1048576 [(false, bt, SP), (false, cc, SC), (true, bm, T2)] W → Calls Try.prog 26 #[.pointer (some ⟨cc, 0, none⟩)] W fun r w' => ∃ o q, r = .returned (.slice o n2 q) ∧ RowA w' (fun n => W.heap.size ≤ n) (.slice o n2 q) F2 ∧ Bx w w1.heap.size bt bm W1 Z 1048576 [(false, bt, SP), (false, cc, SC), (true, bm, T2)] w') := fun W1 Z cc W h => by
              have := h.swap.files hgC hj60
              rw [hnC, ← hn2] at this
              exact this.mono fun _ _ ⟨o, q, k1, k2, k3, k4⟩ => ⟨o, q, k1, k2, k4.swap⟩
            have H9 : Hid (∀ W P Q v u, RowA W P v F1 → RowA W Q u F1 → Calls Try.prog 27 #[v, u] W fun e w' => e = .returned (.bool true) ∧ Below W.heap.size W w') := fun W P Q v u h1 h2 => same_eq v u P Q F1 W h1 h2 HF1b.out
            have H10 : Hid (∀ W P Q v u, RowA W P v F2 → RowA W Q u F2 → Calls Try.prog 27 #[v, u] W fun e w' => e = .returned (.bool true) ∧ Below W.heap.size W w') := fun W P Q v u h1 h2 => same_eq v u P Q F2 W h1 h2 hF2b
            clear hg hgT hlast hF2 hF2b hn2 hM hSP hSC hgP hgC hnP hnC HX HO HX2 HO2 HGs HF1 HF1b
            go_wp2_with (first
              | (go_at_call 26; with_reducible refine (H2.out _ hcr2).mono ?_; rintro e w6 ⟨oB, cB, Z6, P6, P5', rfl, h6, hk6⟩; have HK6 := Lib.hid hk6; clear hk6; have hm6 := bxAt h6)
              | (go_at_call 14; with_reducible refine (H3.out _ _ _ h6).mono ?_; rintro e w7 ⟨cc, rfl, h7⟩; have hm7 := bxAt h7)
              | (go_at_call 24; with_reducible refine (H4.out _ _ _ _ h7).mono ?_; rintro e w8 ⟨rfl, rfl⟩)
              | (go_at_call 16; with_reducible refine (H5.out _ _ _ _ h7).mono ?_; rintro e w9 ⟨rfl, h9⟩; have hm9 := bxAt h9)
              | (go_at_call 16; with_reducible refine (H6.out _ _ _ _ h9).mono ?_; rintro e w10 ⟨rfl, h10⟩; have hm10 := bxAt h10)
              | (go_at_call 26; with_reducible refine (H7.out _ _ _ _ h10).mono ?_; rintro e w11 ⟨oP, cP, rfl, r11, h11⟩)
              | (go_at_call 27; with_reducible refine (H9.out _ _ _ _ _ r11 (HK6.out _ _ h11).2).mono ?_; rintro e w12 ⟨rfl, hb12⟩; have h12 := Bx.below h11 hb12)
              | (go_at_call 26; with_reducible refine (H8.out _ _ _ _ h12).mono ?_; rintro e w13 ⟨oC, cC, rfl, r13, h13⟩)
              | (go_at_call 27; with_reducible refine (H10.out _ _ _ _ _ r13 (HK6.out _ _ h13).1).mono ?_; rintro e w14 ⟨rfl, hb14⟩))
            go_ret
            exact ⟨rfl, (bxBack h13).trans (hb14.mono (bxBack h13).size)⟩

set_option maxRecDepth 100000 in
theorem filesLast_lifted (os : Os) (started : os.Started) (H : Type) (enc : TypeId × Value → H) :
    ReturnsInHanded {} Try.checked os 5 .any (Rows.filesLastSpec.pre6 enc Try.prog Try.f5 Rows.filesLastRow.domain false) (Rows.filesLastSpec.post enc Try.prog Try.f5 false true false false) := by
  refine returnsInHanded_of_change (C := Try.checked) own_knob started (by kernel_rfl) Try.func5
    (ChangeSpec.witness6 (enc := enc) (C := Try.checked) false ⟨#[], #[.slice none 0 0, .int .i64 0], []⟩ 8 (by kernel_rfl) (by kernel_rfl) (by kernel_rfl) (by kernel_rfl)) ?_
  intro W base args ds gs before hval0 hW _ _
  have hval : ∀ (j : Nat) t v, Try.f5.params[j]? = some t → args[j]? = some v → Value.okWide Try.prog W .any base t v := hval0
  have hW' := hW
  obtain ⟨p, q, hA0, hV, rfl, hfz, hnd⟩ := hW
  have hA : DataW.TrodAll enc Try.prog W 0 (fun _ => true) true Try.f5.params.toList args.toList ds p := hA0
  rw [Try.params5] at hA hval
  obtain ⟨v0, v1, d0, d1, p0, p1, rfl, rfl, rfl, h0, h1⟩ := trodAll_two hA
  obtain ⟨rfl, rfl⟩ := trodVars_none hV
  clear hA0 hval0
  simp only [List.append_nil] at hW'
  have hlt := fun x hx => hW'.lt x hx
  obtain ⟨⟨al0, hn0, hw0, hr0⟩, hback0⟩ := open_acts (hval 0 22 v0 rfl rfl) h0 (fun x hx => hlt x (by simp [hx]))
  obtain ⟨i1, rfl, rfl, rfl, ws1⟩ := open_int Try.underlying3 (hval 1 3 v1 rfl rfl) h1
  refine (filesLast_walk v0 al0 hn0 hw0 i1 (bounds_i64 ws1) W hr0).mono fun e W' h => ⟨.bool true, h.1, ?_⟩
  exact post_true_at hW' rfl (by kernel_rfl) Try.underlying4 rfl (trodAll_mk2 (hback0 W' h.2) (shut_int Try.underlying3 ws1)) h.2

theorem filesLast_holds : Rows.FilesLastSaid :=
  OpenClaim.holds_of_wide 5 Try.f5 rfl rfl rfl rfl rfl rfl rfl ⟨rfl, rfl, rfl, rfl, rfl⟩ rfl rfl rfl rfl rfl (by kernel_rfl) Try.func5 (by kernel_rfl)
    (of_decide_eq_true (by kernel_rfl)) (by unfold Func.isWrapper; first | (rw [if_pos (by decide +kernel)]; kernel_rfl) | (rw [if_neg (by decide +kernel)]; exact ⟨rfl, rfl⟩))
    (fun os started H enc _ => filesLast_lifted os started H enc)

end Go.Proofs.Ytginlknlkbhgaaa
