/-
  Times rise with each change of a file, and go with it when it is renamed; what errs changes nothing: for any row of acts. No condition.
-/
import Derived.Test.YtginlknlkbhgaaaRowP
import Derived.Test.YtginlknlkbhgaaaFActs
import Derived.Test.YtginlknlkbhgaaaFLaws2
import Derived.Test.YtginlknlkbhgaaaFPure
namespace Go.Proofs.Ytginlknlkbhgaaa
open Go.ChangeShapes Go.WideShapes Go.ChangeAt Go.RowKit
open Go.Shelf Go.Maps

theorem actBox {W : World} {b : Nat} {x0 x1 x2 x3 x4 : Value} {T : TypeId} {fz : Nat × Nat} (h : W.heap[b]? = some (.cells #[x0, x1, x2, x3, x4] T fz)) : W.cell? ⟨b, 0, none⟩ = some x0 ∧ W.cell? ⟨b, 3, none⟩ = some x3 ∧ W.cell? ⟨b, 4, none⟩ = some x4 := by
  refine ⟨?_, ?_, ?_⟩ <;> (rw [Lib.cell_of_heap h]; rfl)


set_option maxRecDepth 100000 in
set_option maxHeartbeats 8000000 in
theorem filesTimes_walk (v : Value) (al : List ActV) (hn : al.length ≤ maxLen) (hw : ∀ a ∈ al, ActW a) (w : World) (hr : ActsO w w.heap.size v al) :
    Calls Try.prog 6 #[v] w (LawPost w) := by
  obtain ⟨o, c, rfl, hx'⟩ := id hr
  clear hx'
  have HSh := Lib.hid (shown_at w)
  have HSm := Lib.hid (small_at hr hn hw)
  have HBg := Lib.hid (begun_at 2000 (by omega) (by omega) w)
  have hb0 : Below w.heap.size w w := Below.refl _ _
  cases hsm : smallB al with
  | false =>
    rw [hsm] at HSm
    clear hr hn hw hsm
    go_enter Try.func6, Try.ntmps6
    go_wp2_with (first
      | (go_at_call 11; refine (HSh.out _ hb0).mono ?_; rintro e w2 ⟨rfl, hb2⟩)
      | (go_at_call 12; refine (HSm.out _ hb2).mono ?_; rintro e w3 ⟨rfl, rfl⟩)
      | (go_at_call 13; refine (HBg.out _ hb2).mono ?_; rintro e w1 ⟨bt, bm, rfl, h0⟩))
    go_ret
    exact ⟨rfl, boxBack h0⟩
  | true =>
    rw [hsm] at HSm
    obtain ⟨hlen, hok⟩ := small_ok hsm hw
    have HX : Hid (ActsO w w.heap.size (.slice o al.length c) al) := hr
    have HO := Lib.hid hok
    clear hr hn hw hsm hok
    go_enter Try.func6, Try.ntmps6
    go_wp2_with (first
      | (go_at_call 11; refine (HSh.out _ hb0).mono ?_; rintro e w2 ⟨rfl, hb2⟩)
      | (go_at_call 12; refine (HSm.out _ hb2).mono ?_; rintro e w3 ⟨rfl, rfl⟩)
      | (go_at_call 13; refine (HBg.out _ hb2).mono ?_; rintro e w1 ⟨bt, bm, rfl, h0⟩))
    clear HSh HSm HBg
    obtain ⟨T0, hT0⟩ : ∃ T0 : St, T0 = (0, [], [], []) := ⟨_, rfl⟩
    go_loopw [8, 7] (fun i u wr => ∃ (k : Nat) (S : St) (m : Int), k ≤ al.length ∧ i = .int .i64 k ∧ u = .int .i64 m ∧ 0 ≤ m ∧ m ≤ S.clock ∧ Good 2000 k S ∧ Bx w w1.heap.size bt bm (pairW w1 bt bm) (ZB w w1) 2000 [(false, bt, S), (true, bm, T0)] wr) (fun i _ _ => al.length - (intOf i).toNat)
    case atStart => exact ⟨0, _, 0, Nat.zero_le _, rfl, rfl, Int.le_refl _, Int.le_refl _, Good.new (by omega) (by omega), by rw [hT0]; exact h0.bx⟩
    case round =>
      obtain ⟨k, S, m, hk, rfl, rfl, hm0, hmc, hg, hcr⟩ := hrel
      have hmb := bxAt hcr
      by_cases hlt : k < al.length
      · obtain ⟨b, f, rfl, hkc, hcell⟩ := acts_at HX.out (List.getElem?_eq_getElem hlt)
        have ha := HO.out _ (List.getElem_mem hlt)
        generalize al[k] = a at *
        have hi5 : (k : Int) < (al.length : Int) := by omega
        have hi6 : (0 : Int) ≤ (k : Int) := by omega
        have hk60 : k < 268435456 := by omega
        have hk61 : k + 1 < 268435456 := by omega
        have hcc := hcell wr (bxBack hcr)
        obtain ⟨q, hq⟩ : ∃ q, q = a.k := ⟨_, rfl⟩
        have hq8 : q < 8 := by rw [hq]; exact a.k8
        have HP : Hid (∀ W, Calls Try.prog 25 #[.int .i64 a.op, .int .i64 8] W fun e w' => e = .returned (.int .i64 q) ∧ W = w') := fun W => by
          have := pick_any a.op ha.op 8 (by omega) (by omega) W
          rw [hq]; exact this
        -- the box of the act
        obtain ⟨wa, hwa⟩ : ∃ wa, wa = wr.alloc (.cells #[.int .i64 a.op, .int .i64 a.n, .int .i64 a.m, .string a.path, .string a.text] 35) := ⟨_, rfl⟩
        have hba : Below wr.heap.size wr wa := by rw [hwa]; exact (Below.refl _ wr).alloc (Nat.le_refl _) _
        have hxa : wa.heap[wr.heap.size]? = some (.cells #[.int .i64 a.op, .int .i64 a.n, .int .i64 a.m, .string a.path, .string a.text] 35 (0, 0)) := by rw [hwa]; exact World.alloc_heap_new wr _
        have hsa : wa.heap.size = wr.heap.size + 1 := by rw [hwa]; simp
        have hca : Bx w w1.heap.size bt bm (pairW w1 bt bm) (ZB w w1) 2000 [(false, bt, S), (true, bm, T0)] wa := Bx.below hcr hba
        obtain ⟨F1, hF1⟩ : ∃ F1, F1 = filesOf S.now := ⟨_, rfl⟩
        have hF1b : F1.length < 1073741824 := by rw [hF1]; unfold filesOf; have := hg.files.len; simp; omega
        obtain ⟨n1, hn1⟩ : ∃ n1, n1 = F1.length := ⟨_, rfl⟩
        obtain ⟨sz, hsz⟩ : ∃ sz, sz = (opStat S a.path.data.toList).1 := ⟨_, rfl⟩
        obtain ⟨tm, htm⟩ : ∃ tm, tm = (opStat S a.path.data.toList).2.1 := ⟨_, rfl⟩
        obtain ⟨er, her⟩ : ∃ er, er = (opStat S a.path.data.toList).2.2 := ⟨_, rfl⟩
        have hszb : 0 ≤ sz ∧ sz ≤ 16777216 := by rw [hsz, stat_size]; have := hg.tx a.path.data.toList; omega
        have H1 : Hid (Bx w w1.heap.size bt bm (pairW w1 bt bm) (ZB w w1) 2000 [(false, bt, S), (true, bm, T0)] wa → Calls Try.prog 26 #[.pointer (some ⟨bt, 0, none⟩)] wa fun r w' => ∃ o q, r = .returned (.slice o n1 q) ∧ RowA w' (fun n => wa.heap.size ≤ n) (.slice o n1 q) F1 ∧ Below wa.heap.size wa w') := fun h => by
          have := h.files hg hk60
          rw [← hF1, ← hn1] at this
          exact this.mono fun _ _ ⟨o, q, k1, k2, k3, k4⟩ => ⟨o, q, k1, k2, k3⟩
        have H2 : Hid (∀ W, Bx w w1.heap.size bt bm (pairW w1 bt bm) (ZB w w1) 2000 [(false, bt, S), (true, bm, T0)] W → Calls Try.prog 28 #[.pointer (some ⟨bt, 0, none⟩), .string a.path] W fun r w' => r = .returned (.tuple #[.agg #[.int .i64 sz, .int .i64 tm], .int .i64 er]) ∧ Below W.heap.size W w') := fun W h => by
          have := h.statB a.path (by have := ha.path1; omega)
          rw [← hsz, ← htm, ← her] at this
          exact this
        -- what is kept from then on
        have H2k : Hid (∀ W3 W4 oA cA, RowA W3 (fun n => wa.heap.size ≤ n) (.slice oA n1 cA) F1 → Below wa.heap.size wa W3 → Below W3.heap.size W3 W4 →
            ∃ w5 Z5 P5, w5 = W4.alloc (.cells #[.int .i64 sz, .int .i64 tm] 50) ∧ Bx w w1.heap.size bt bm w5 Z5 2000 [(false, bt, S), (true, bm, T0)] w5 ∧ ∀ l W, Bx w w1.heap.size bt bm w5 Z5 2000 l W → RowA W P5 (.slice oA n1 cA) F1 ∧ (W.cell? ⟨W4.heap.size, 0, none⟩ = some (.int .i64 sz) ∧ W.cell? ⟨W4.heap.size, 1, none⟩ = some (.int .i64 tm)) ∧ W.cell? ⟨wr.heap.size, 0, none⟩ = some (.int .i64 a.op) ∧ W.cell? ⟨wr.heap.size, 3, none⟩ = some (.string a.path) ∧ W.cell? ⟨wr.heap.size, 4, none⟩ = some (.string a.text) ∧ Bx w w1.heap.size bt bm (pairW w1 bt bm) (ZB w w1) 2000 l W) := by
          intro W3 W4 oA cA hrow hb3 hb4
          have hb5 : Below W4.heap.size W4 (W4.alloc (.cells #[.int .i64 sz, .int .i64 tm] 50)) := (Below.refl _ _).alloc (Nat.le_refl _) _
          have hs3 := hb3.size
          have hs4 := hb4.size
          have hb35 : Below W3.heap.size W3 (W4.alloc (.cells #[.int .i64 sz, .int .i64 tm] 50)) := hb4.trans (hb5.mono hs4)
          have hba5 : Below wa.heap.size wa (W4.alloc (.cells #[.int .i64 sz, .int .i64 tm] 50)) := hb3.trans (hb35.mono hs3)
          obtain ⟨Z5, k1, k2, k3⟩ := hcr.prot (hba.trans (hba5.mono (by omega)))
          have hrow5 := RowR.below hrow hb35 (Nat.le_refl _)
          refine ⟨_, Z5, _, rfl, k1, fun l W h => ⟨h.krow k2 hrow5 (fun n (hn : wa.heap.size ≤ n) => by omega), ?_, ?_⟩⟩
          · have hx := h.kcell k2 (World.alloc_heap_new W4 _) (by omega)
            exact ⟨by rw [Lib.cell_of_heap hx]; rfl, by rw [Lib.cell_of_heap hx]; rfl⟩
          · have hx := h.kcell k2 ((hba5.block _ (by omega)).trans hxa) (Nat.le_refl _)
            exact ⟨by rw [Lib.cell_of_heap hx]; rfl, by rw [Lib.cell_of_heap hx]; rfl, by rw [Lib.cell_of_heap hx]; rfl, Bx.rebase (Bx.below hca hba5) h k3⟩
        have H9 : Hid (∀ W P Q v u, RowA W P v F1 → RowA W Q u F1 → Calls Try.prog 27 #[v, u] W fun e w' => e = .returned (.bool true) ∧ Below W.heap.size W w') := fun W P Q v u h1 h2 => same_eq v u P Q F1 W h1 h2 hF1b
        have HW := Lib.hid hwa
        -- the cells of the boxes, in the act's world
        have hma := bxAt hca
        rw [hwa] at hma
        by_cases hskip : 4 ≤ q ∧ q ≠ 5
        · have hgm : Good 2000 (k + 1) S := hg.more (by omega)
          have d1 : (4 : Int) ≤ (q : Int) := by omega
          have d2 : ¬ (q : Int) = 5 := by omega
          have hcrx : Bx w w1.heap.size bt bm (pairW w1 bt bm) (ZB w w1) 2000 [(false, bt, S), (true, bm, T0)] (wr.alloc (.cells #[.int .i64 a.op, .int .i64 a.n, .int .i64 a.m, .string a.path, .string a.text] 35)) := by rw [← hwa]; exact hca
          clear hg ha hcell hq HX HO H1 H2 H2k H9 hba hxa hca hF1 hF1b hn1 hsz htm her hwa HW hT0
          obtain ⟨op, an, am, ap, at'⟩ := a
          simp only [ActCells] at HP hcc hcrx hma
          obtain ⟨c0, c1, c2, c3, c4⟩ := hcc
          go_wp2_with (first | (go_at_call 25; refine (HP.out _).mono ?_; rintro e w4 ⟨rfl, rfl⟩))
          go_roundw
          case rel => exact ⟨k + 1, S, m, hlt, by go_num, rfl, hm0, hmc, hgm, hcrx⟩
          case measure => simp [intOf]; omega
        · by_cases hq5 : q = 5
          · have d1 : (4 : Int) ≤ (q : Int) := by omega
            have d2 : (q : Int) = 5 := by omega
            by_cases hf : (opN S a.path.data.toList a.text.data.toList).1 = 0
            · skip
              obtain ⟨S', hS'⟩ : ∃ S', S' = (opN S a.path.data.toList a.text.data.toList).2 := ⟨_, rfl⟩
              have hg' : Good 2000 (k + 1) S' := by rw [hS']; exact hg.opN _ _
              obtain ⟨her0, hst2⟩ := opN_stat hg hf
              rw [← hS'] at hst2
              rw [her0] at her
              rw [her] at H2
              have hmc' : m ≤ S'.clock := by have := opN_clock (S := S) (p := a.path.data.toList) (q := a.text.data.toList); rw [hS']; omega
              have her2 : (opStat S a.path.data.toList).2.2 = 0 := her0
              have H4 : Hid (∀ W1 Z W, Bx w w1.heap.size bt bm W1 Z 2000 [(false, bt, S), (true, bm, T0)] W → Calls Try.prog 23 #[.pointer (some ⟨bt, 0, none⟩), .string a.path, .string a.text] W fun r w' => r = .returned (.int .i64 0) ∧ Bx w w1.heap.size bt bm W1 Z 2000 [(false, bt, S'), (true, bm, T0)] w') := fun W1 Z W h => by
                have := h.rename hg hk60 a.path a.text (by have := ha.path1; omega) (by have := ha.text1; omega)
                rw [hf, ← hS'] at this
                exact this
              have H5 : Hid (∀ W1 Z W, Bx w w1.heap.size bt bm W1 Z 2000 [(false, bt, S'), (true, bm, T0)] W → Calls Try.prog 28 #[.pointer (some ⟨bt, 0, none⟩), .string a.text] W fun r w' => r = .returned (.tuple #[.agg #[.int .i64 sz, .int .i64 tm], .int .i64 0]) ∧ Below W.heap.size W w') := fun W1 Z W h => by
                have := h.statB a.text (by have := ha.path1; have := ha.text1; omega)
                rw [hst2, ← hsz, ← htm, her2] at this
                exact this
              clear hg ha hcell hq HX HO hba hF1 hF1b hn1 hsz htm her hwa hT0 hcr hS' her0 hst2 her2 hf
              obtain ⟨op, an, am, ap, at'⟩ := a
              simp only [ActCells] at HP hcc hma hxa H1 H2 H2k H4 H5 HW
              obtain ⟨c0, c1, c2, c3, c4⟩ := hcc
              go_wp2_with (first
                | (go_at_call 25; refine (HP.out _).mono ?_; rintro e w4 ⟨rfl, rfl⟩)
                | (go_at_call 26; rw [← HW.out]; with_reducible refine (H1.out hca).mono ?_; rintro e w3 ⟨oA, cA, rfl, r3, hb3⟩; have h3 := Bx.below hca hb3; have hm3 := bxAt h3; have hx3 := (hb3.block wr.heap.size (by omega)).trans hxa; obtain ⟨p0, p3, p4⟩ := actBox hx3)
                | (go_at_call 28; with_reducible refine (H2.out _ h3).mono ?_; rintro e w4 ⟨rfl, hb4⟩; obtain ⟨w5, Z5, P5, hw5, h5, hk5⟩ := H2k.out _ _ _ _ r3 hb3 hb4; obtain ⟨_, _, k0, k3, k4, _⟩ := hk5 _ _ h5; have hm5 := bxAt h5; rw [hw5] at hm5 k0 k3 k4; have HK5 := Lib.hid hk5; have HW5 := Lib.hid hw5; clear hw5 hk5)
                | (go_at_call 23; rw [← HW5.out]; with_reducible refine (H4.out _ _ _ h5).mono ?_; rintro e w6 ⟨rfl, h6⟩; have hm6 := bxAt h6; obtain ⟨_, _, k6, k7, k8, _⟩ := HK5.out _ _ h6)
                | (go_at_call 28; with_reducible refine (H5.out _ _ _ h6).mono ?_; rintro e w7 ⟨rfl, hb7⟩; obtain ⟨w8, hw8⟩ : ∃ w8, w8 = w7.alloc (.cells #[.int .i64 sz, .int .i64 tm] 50) := ⟨_, rfl⟩; have h8 := Bx.below h6 (show Below w6.heap.size w6 w8 from (by rw [hw8]; exact hb7.alloc hb7.size _)); have hm8 := bxAt h8; obtain ⟨_, ⟨x0, x1⟩, k9, k10, k11, hE⟩ := HK5.out _ _ h8; rw [hw8] at hm8 x0 x1 k9 k10 k11; have HW8 := Lib.hid hw8; have HE := Lib.hid hE; clear hw8 hE))
              go_roundw
              case rel => exact ⟨k + 1, S', m, hlt, by go_num, rfl, hm0, hmc', hg', by rw [← HW8.out]; exact HE.out⟩
              case measure => simp [intOf]; omega
            · skip
              have hS2 := opN_err hf
              obtain ⟨fc, hfc⟩ : ∃ fc, fc = (opN S a.path.data.toList a.text.data.toList).1 := ⟨_, rfl⟩
              rw [← hfc] at hf
              have H4 : Hid (∀ W1 Z W, Bx w w1.heap.size bt bm W1 Z 2000 [(false, bt, S), (true, bm, T0)] W → Calls Try.prog 23 #[.pointer (some ⟨bt, 0, none⟩), .string a.path, .string a.text] W fun r w' => r = .returned (.int .i64 fc) ∧ Bx w w1.heap.size bt bm W1 Z 2000 [(false, bt, S), (true, bm, T0)] w') := fun W1 Z W h => by
                have := h.rename hg hk60 a.path a.text (by have := ha.path1; omega) (by have := ha.text1; omega)
                rw [← hfc, hS2] at this
                exact this
              obtain ⟨s2, hs2⟩ : ∃ s2, s2 = (opStat S a.text.data.toList).1 := ⟨_, rfl⟩
              obtain ⟨t2, ht2⟩ : ∃ t2, t2 = (opStat S a.text.data.toList).2.1 := ⟨_, rfl⟩
              obtain ⟨g2, hg2⟩ : ∃ g2, g2 = (opStat S a.text.data.toList).2.2 := ⟨_, rfl⟩
              have hgm : Good 2000 (k + 1) S := hg.more (by omega)
              have H11 : Hid (∀ W1 Z W, Bx w w1.heap.size bt bm W1 Z 2000 [(false, bt, S), (true, bm, T0)] W → Calls Try.prog 26 #[.pointer (some ⟨bt, 0, none⟩)] W fun r w' => ∃ o q, r = .returned (.slice o n1 q) ∧ RowA w' (fun n => W.heap.size ≤ n) (.slice o n1 q) F1 ∧ Bx w w1.heap.size bt bm W1 Z 2000 [(false, bt, S), (true, bm, T0)] w') := fun W1 Z W h => by
                have := h.files hg hk60
                rw [← hF1, ← hn1] at this
                exact this.mono fun _ _ ⟨o, q, k1, k2, k3, k4⟩ => ⟨o, q, k1, k2, k4⟩
              have H5 : Hid (∀ W1 Z W, Bx w w1.heap.size bt bm W1 Z 2000 [(false, bt, S), (true, bm, T0)] W → Calls Try.prog 28 #[.pointer (some ⟨bt, 0, none⟩), .string a.text] W fun r w' => r = .returned (.tuple #[.agg #[.int .i64 s2, .int .i64 t2], .int .i64 g2]) ∧ Below W.heap.size W w') := fun W1 Z W h => by
                have := h.statB a.text (by have := ha.path1; have := ha.text1; omega)
                rw [← hs2, ← ht2, ← hg2] at this
                exact this
              clear hg ha hcell hq HX HO hba hF1 hF1b hn1 hsz htm her hwa hT0 hcr hS2 hfc hs2 ht2 hg2
              obtain ⟨op, an, am, ap, at'⟩ := a
              simp only [ActCells] at HP hcc hma hxa H1 H2 H2k H4 H5 HW
              obtain ⟨c0, c1, c2, c3, c4⟩ := hcc
              go_wp2_with (first
                | (go_at_call 25; refine (HP.out _).mono ?_; rintro e w4 ⟨rfl, rfl⟩)
                | (go_at_call 26; rw [← HW.out]; with_reducible refine (H1.out hca).mono ?_; rintro e w3 ⟨oA, cA, rfl, r3, hb3⟩; have h3 := Bx.below hca hb3; have hm3 := bxAt h3; have hx3 := (hb3.block wr.heap.size (by omega)).trans hxa; obtain ⟨p0, p3, p4⟩ := actBox hx3)
                | (go_at_call 28; with_reducible refine (H2.out _ h3).mono ?_; rintro e w4 ⟨rfl, hb4⟩; obtain ⟨w5, Z5, P5, hw5, h5, hk5⟩ := H2k.out _ _ _ _ r3 hb3 hb4; obtain ⟨_, _, k0, k3, k4, _⟩ := hk5 _ _ h5; have hm5 := bxAt h5; rw [hw5] at hm5 k0 k3 k4; have HK5 := Lib.hid hk5; have HW5 := Lib.hid hw5; clear hw5 hk5)
                | (go_at_call 23; rw [← HW5.out]; with_reducible refine (H4.out _ _ _ h5).mono ?_; rintro e w6 ⟨rfl, h6⟩; have hm6 := bxAt h6; obtain ⟨_, _, k6, k7, k8, _⟩ := HK5.out _ _ h6)
                | (go_at_call 28; with_reducible refine (H5.out _ _ _ h6).mono ?_; rintro e w7 ⟨rfl, hb7⟩; obtain ⟨w8, hw8⟩ : ∃ w8, w8 = w7.alloc (.cells #[.int .i64 s2, .int .i64 t2] 50) := ⟨_, rfl⟩; have h8 := Bx.below h6 (show Below w6.heap.size w6 w8 from (by rw [hw8]; exact hb7.alloc hb7.size _)); have hm8 := bxAt h8; obtain ⟨_, ⟨x0, x1⟩, k9, k10, k11, hE⟩ := HK5.out _ _ h8; rw [hw8] at hm8 x0 x1 k9 k10 k11; have HW8 := Lib.hid hw8; have HE := Lib.hid hE; clear hw8 hE)
                | (go_at_call 26; rw [← HW8.out]; with_reducible refine (H11.out _ _ _ h8).mono ?_; rintro e w9 ⟨oB, cB, rfl, r9, h9⟩)
                | (go_at_call 27; with_reducible refine (H9.out _ _ _ _ _ r9 (HK5.out _ _ h9).1).mono ?_; rintro e w10 ⟨rfl, hb10⟩; have h10 := Bx.below h9 hb10; have HE2 := Lib.hid (HK5.out _ _ h10).2.2.2.2.2))
              go_roundw
              case rel => exact ⟨k + 1, S, m, hlt, by go_num, rfl, hm0, hmc, hgm, HE2.out⟩
              case measure => simp [intOf]; omega
          · have d1 : ¬ (4 : Int) ≤ (q : Int) := by omega
            have d2 : ¬ (q : Int) = 5 := by omega
            by_cases hf : (opA 2000 S a.path.data.toList a.text.data.toList).1 = 0
            · skip
              obtain ⟨S', hS'⟩ : ∃ S', S' = (opA 2000 S a.path.data.toList a.text.data.toList).2 := ⟨_, rfl⟩
              have hg' : Good 2000 (k + 1) S' := by rw [hS']; exact hg.opA _ _
              obtain ⟨hst2, hck⟩ := opA_stat hg hf
              rw [← hS'] at hst2 hck
              rw [← hsz] at hst2
              obtain ⟨ln, hln⟩ : ∃ ln : Nat, ln = a.text.size := ⟨_, rfl⟩
              have hln2 : a.text.data.toList.length = a.text.size := size_list a.text
              obtain ⟨ck, hck0⟩ : ∃ ck, ck = S.clock + 1 := ⟨_, rfl⟩
              rw [hln2, ← hck0] at hst2
              rw [← hck0] at hck
              have HCK := Lib.hid hck
              have hmk : ¬ ck ≤ m := by omega
              have hckb : 0 ≤ ck ∧ ck ≤ 4611686018427387904 := by have := hg.clock0; have := hg.clock1; omega
              have htxb : a.text.size ≤ 300 := ha.text1
              have H4 : Hid (∀ W1 Z W, Bx w w1.heap.size bt bm W1 Z 2000 [(false, bt, S), (true, bm, T0)] W → Calls Try.prog 29 #[.pointer (some ⟨bt, 0, none⟩), .string a.path, .string a.text] W fun r w' => r = .returned (.int .i64 0) ∧ Bx w w1.heap.size bt bm W1 Z 2000 [(false, bt, S'), (true, bm, T0)] w') := fun W1 Z W h => by
                have := h.append hg hk60 a.path a.text (by have := ha.path1; omega) (by have := ha.text1; omega)
                rw [hf, ← hS'] at this
                exact this
              have H5 : Hid (∀ W1 Z W, Bx w w1.heap.size bt bm W1 Z 2000 [(false, bt, S'), (true, bm, T0)] W → Calls Try.prog 28 #[.pointer (some ⟨bt, 0, none⟩), .string a.path] W fun r w' => r = .returned (.tuple #[.agg #[.int .i64 (sz + (a.text.size : Nat)), .int .i64 ck], .int .i64 0]) ∧ Below W.heap.size W w') := fun W1 Z W h => by
                have := h.statB a.path (by have := ha.path1; have := ha.text1; omega)
                rw [hst2] at this
                exact this
              clear hg ha hcell hq HX HO hba hF1 hF1b hn1 hsz htm her hwa hT0 hcr hS' hst2 hln hln2 hf hck hck0
              obtain ⟨op, an, am, ap, at'⟩ := a
              simp only [ActCells] at HP hcc hma hxa H1 H2 H2k H4 H5 HW htxb
              obtain ⟨c0, c1, c2, c3, c4⟩ := hcc
              go_wp2_with (first
                | (go_at_call 25; refine (HP.out _).mono ?_; rintro e w4 ⟨rfl, rfl⟩)
                | (go_at_call 26; rw [← HW.out]; with_reducible refine (H1.out hca).mono ?_; rintro e w3 ⟨oA, cA, rfl, r3, hb3⟩; have h3 := Bx.below hca hb3; have hm3 := bxAt h3; have hx3 := (hb3.block wr.heap.size (by omega)).trans hxa; obtain ⟨p0, p3, p4⟩ := actBox hx3)
                | (go_at_call 28; with_reducible refine (H2.out _ h3).mono ?_; rintro e w4 ⟨rfl, hb4⟩; obtain ⟨w5, Z5, P5, hw5, h5, hk5⟩ := H2k.out _ _ _ _ r3 hb3 hb4; obtain ⟨_, _, k0, k3, k4, _⟩ := hk5 _ _ h5; have hm5 := bxAt h5; rw [hw5] at hm5 k0 k3 k4; have HK5 := Lib.hid hk5; have HW5 := Lib.hid hw5; clear hw5 hk5)
                | (go_at_call 29; rw [← HW5.out]; with_reducible refine (H4.out _ _ _ h5).mono ?_; rintro e w6 ⟨rfl, h6⟩; have hm6 := bxAt h6; obtain ⟨_, _, k6, k7, k8, _⟩ := HK5.out _ _ h6)
                | (go_at_call 28; with_reducible refine (H5.out _ _ _ h6).mono ?_; rintro e w7 ⟨rfl, hb7⟩; obtain ⟨w8, hw8⟩ : ∃ w8, w8 = w7.alloc (.cells #[.int .i64 (sz + (at'.size : Nat)), .int .i64 ck] 50) := ⟨_, rfl⟩; have h8 := Bx.below h6 (show Below w6.heap.size w6 w8 from (by rw [hw8]; exact hb7.alloc hb7.size _)); have hm8 := bxAt h8; obtain ⟨_, ⟨x0, x1⟩, k9, k10, k11, hE⟩ := HK5.out _ _ h8; rw [hw8] at hm8 x0 x1 k9 k10 k11; have HW8 := Lib.hid hw8; have HE := Lib.hid hE; clear hw8 hE))
              go_roundw
              case rel => exact ⟨k + 1, S', ck, hlt, by go_num, rfl, hckb.1, by rw [show S'.clock = ck from HCK.out]; exact Int.le_refl _, hg', by rw [← HW8.out]; exact HE.out⟩
              case measure => simp [intOf]; omega
            · skip
              have hS2 := opA_err hf
              obtain ⟨fc, hfc⟩ : ∃ fc, fc = (opA 2000 S a.path.data.toList a.text.data.toList).1 := ⟨_, rfl⟩
              rw [← hfc] at hf
              have H4 : Hid (∀ W1 Z W, Bx w w1.heap.size bt bm W1 Z 2000 [(false, bt, S), (true, bm, T0)] W → Calls Try.prog 29 #[.pointer (some ⟨bt, 0, none⟩), .string a.path, .string a.text] W fun r w' => r = .returned (.int .i64 fc) ∧ Bx w w1.heap.size bt bm W1 Z 2000 [(false, bt, S), (true, bm, T0)] w') := fun W1 Z W h => by
                have := h.append hg hk60 a.path a.text (by have := ha.path1; omega) (by have := ha.text1; omega)
                rw [← hfc, hS2] at this
                exact this
              obtain ⟨s2, hs2⟩ : ∃ s2, s2 = (opStat S a.path.data.toList).1 := ⟨_, rfl⟩
              obtain ⟨t2, ht2⟩ : ∃ t2, t2 = (opStat S a.path.data.toList).2.1 := ⟨_, rfl⟩
              obtain ⟨g2, hg2⟩ : ∃ g2, g2 = (opStat S a.path.data.toList).2.2 := ⟨_, rfl⟩
              have hgm : Good 2000 (k + 1) S := hg.more (by omega)
              have H11 : Hid (∀ W1 Z W, Bx w w1.heap.size bt bm W1 Z 2000 [(false, bt, S), (true, bm, T0)] W → Calls Try.prog 26 #[.pointer (some ⟨bt, 0, none⟩)] W fun r w' => ∃ o q, r = .returned (.slice o n1 q) ∧ RowA w' (fun n => W.heap.size ≤ n) (.slice o n1 q) F1 ∧ Bx w w1.heap.size bt bm W1 Z 2000 [(false, bt, S), (true, bm, T0)] w') := fun W1 Z W h => by
                have := h.files hg hk60
                rw [← hF1, ← hn1] at this
                exact this.mono fun _ _ ⟨o, q, k1, k2, k3, k4⟩ => ⟨o, q, k1, k2, k4⟩
              have H5 : Hid (∀ W1 Z W, Bx w w1.heap.size bt bm W1 Z 2000 [(false, bt, S), (true, bm, T0)] W → Calls Try.prog 28 #[.pointer (some ⟨bt, 0, none⟩), .string a.path] W fun r w' => r = .returned (.tuple #[.agg #[.int .i64 s2, .int .i64 t2], .int .i64 g2]) ∧ Below W.heap.size W w') := fun W1 Z W h => by
                have := h.statB a.path (by have := ha.path1; have := ha.text1; omega)
                rw [← hs2, ← ht2, ← hg2] at this
                exact this
              clear hg ha hcell hq HX HO hba hF1 hF1b hn1 hsz htm her hwa hT0 hcr hS2 hfc hs2 ht2 hg2
              obtain ⟨op, an, am, ap, at'⟩ := a
              simp only [ActCells] at HP hcc hma hxa H1 H2 H2k H4 H5 HW
              obtain ⟨c0, c1, c2, c3, c4⟩ := hcc
              go_wp2_with (first
                | (go_at_call 25; refine (HP.out _).mono ?_; rintro e w4 ⟨rfl, rfl⟩)
                | (go_at_call 26; rw [← HW.out]; with_reducible refine (H1.out hca).mono ?_; rintro e w3 ⟨oA, cA, rfl, r3, hb3⟩; have h3 := Bx.below hca hb3; have hm3 := bxAt h3; have hx3 := (hb3.block wr.heap.size (by omega)).trans hxa; obtain ⟨p0, p3, p4⟩ := actBox hx3)
                | (go_at_call 28; with_reducible refine (H2.out _ h3).mono ?_; rintro e w4 ⟨rfl, hb4⟩; obtain ⟨w5, Z5, P5, hw5, h5, hk5⟩ := H2k.out _ _ _ _ r3 hb3 hb4; obtain ⟨_, _, k0, k3, k4, _⟩ := hk5 _ _ h5; have hm5 := bxAt h5; rw [hw5] at hm5 k0 k3 k4; have HK5 := Lib.hid hk5; have HW5 := Lib.hid hw5; clear hw5 hk5)
                | (go_at_call 29; rw [← HW5.out]; with_reducible refine (H4.out _ _ _ h5).mono ?_; rintro e w6 ⟨rfl, h6⟩; have hm6 := bxAt h6; obtain ⟨_, _, k6, k7, k8, _⟩ := HK5.out _ _ h6)
                | (go_at_call 28; with_reducible refine (H5.out _ _ _ h6).mono ?_; rintro e w7 ⟨rfl, hb7⟩; obtain ⟨w8, hw8⟩ : ∃ w8, w8 = w7.alloc (.cells #[.int .i64 s2, .int .i64 t2] 50) := ⟨_, rfl⟩; have h8 := Bx.below h6 (show Below w6.heap.size w6 w8 from (by rw [hw8]; exact hb7.alloc hb7.size _)); have hm8 := bxAt h8; obtain ⟨_, ⟨x0, x1⟩, k9, k10, k11, hE⟩ := HK5.out _ _ h8; rw [hw8] at hm8 x0 x1 k9 k10 k11; have HW8 := Lib.hid hw8; have HE := Lib.hid hE; clear hw8 hE)
                | (go_at_call 26; rw [← HW8.out]; with_reducible refine (H11.out _ _ _ h8).mono ?_; rintro e w9 ⟨oB, cB, rfl, r9, h9⟩)
                | (go_at_call 27; with_reducible refine (H9.out _ _ _ _ _ r9 (HK5.out _ _ h9).1).mono ?_; rintro e w10 ⟨rfl, hb10⟩; have h10 := Bx.below h9 hb10; have HE2 := Lib.hid (HK5.out _ _ h10).2.2.2.2.2))
              go_roundw
              case rel => exact ⟨k + 1, S, m, hlt, by go_num, rfl, hm0, hmc, hgm, HE2.out⟩
              case measure => simp [intOf]; omega
      · go_wp2
        go_ret
        exact ⟨rfl, bxBack hcr⟩

set_option maxRecDepth 100000 in
theorem filesTimes_lifted (os : Os) (started : os.Started) (H : Type) (enc : TypeId × Value → H) :
    ReturnsInHanded {} Try.checked os 6 .any (Rows.filesTimesSpec.pre6 enc Try.prog Try.f6 Rows.filesTimesRow.domain false) (Rows.filesTimesSpec.post enc Try.prog Try.f6 false true false false) := by
  refine returnsInHanded_of_change (C := Try.checked) own_knob started (by kernel_rfl) Try.func6
    (ChangeSpec.witness6 (enc := enc) (C := Try.checked) false ⟨#[], #[.slice none 0 0], []⟩ 8 (by kernel_rfl) (by kernel_rfl) (by kernel_rfl) (by kernel_rfl)) ?_
  intro W base args ds gs before hval0 hW _ _
  have hval : ∀ (j : Nat) t v, Try.f6.params[j]? = some t → args[j]? = some v → Value.okWide Try.prog W .any base t v := hval0
  have hW' := hW
  obtain ⟨p, q, hA0, hV, rfl, hfz, hnd⟩ := hW
  have hA : DataW.TrodAll enc Try.prog W 0 (fun _ => true) true Try.f6.params.toList args.toList ds p := hA0
  rw [Try.params6] at hA hval
  obtain ⟨v0, d0, rfl, rfl, h0⟩ := trodAll_one hA
  obtain ⟨rfl, rfl⟩ := trodVars_none hV
  clear hA0 hval0
  simp only [List.append_nil] at hW'
  have hlt := fun x hx => hW'.lt x hx
  obtain ⟨⟨al0, hn0, hw0, hr0⟩, hback0⟩ := open_acts (hval 0 22 v0 rfl rfl) h0 (fun x hx => hlt x (by simp [hx]))
  refine (filesTimes_walk v0 al0 hn0 hw0 W hr0).mono fun e W' h => ⟨.bool true, h.1, ?_⟩
  exact post_true_at hW' rfl (by kernel_rfl) Try.underlying4 rfl (trodAll_mk1 (hback0 W' h.2)) h.2

theorem filesTimes_holds : Rows.FilesTimesSaid :=
  OpenClaim.holds_of_wide 6 Try.f6 rfl rfl rfl rfl rfl rfl rfl ⟨rfl, rfl, rfl, rfl, rfl⟩ rfl rfl rfl rfl rfl (by kernel_rfl) Try.func6 (by kernel_rfl)
    (of_decide_eq_true (by kernel_rfl)) (by unfold Func.isWrapper; first | (rw [if_pos (by decide +kernel)]; kernel_rfl) | (rw [if_neg (by decide +kernel)]; exact ⟨rfl, rfl⟩))
    (fun os started H enc _ => filesTimes_lifted os started H enc)

end Go.Proofs.Ytginlknlkbhgaaa
