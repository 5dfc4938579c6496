/-
  The statements' own same; whether a tree has just the document's files.
-/
import Derived.Deep.RegionHeld3
import Derived.Deep.QuietTactic
import Derived.BigQuiet
import Derived.Test.YtginlknlkbhgaaaFLaw3
namespace Go.Proofs.Ytginlknlkbhgaaa
open Go.RowKit Go.Shelf Go.Maps

abbrev RowA (w : World) (P : Nat → Prop) (v : Value) (l : List AF) : Prop := RowR 54 2 afCells w P v l

set_option maxRecDepth 100000 in
set_option maxHeartbeats 2000000 in
theorem same_eq (v u : Value) (P Q : Nat → Prop) (l : List AF) (w : World) (h : RowA w P v l) (h' : RowA w Q u l) (_hl : l.length < 1073741824) :
    Calls Try.prog 27 #[v, u] w fun e w' => e = .returned (.bool true) ∧ Below w.heap.size w w' := by
  obtain ⟨o, c, rfl, q1, q2, _, q4⟩ := h.shape (fun _ => rfl)
  obtain ⟨o', c', rfl, p1, p2, _, p4⟩ := h'.shape (fun _ => rfl)
  have HX := Lib.hid q4
  have HY := Lib.hid p4
  clear h h' q4 p4
  unfold maxLen at q2 p2
  go_enter Try.func27, Try.ntmps27
  go_wp2
  go_loopw [5] (fun i wr => ∃ k q : Nat, k ≤ l.length ∧ i = .int .i64 k ∧ wr = w.drewN q) (fun i _ => l.length - (intOf i).toNat)
  case atStart => exact ⟨0, 0, Nat.zero_le _, rfl, rfl⟩
  case round =>
    obtain ⟨k, q, hk, rfl, rfl⟩ := hrel
    by_cases hlt : k < l.length
    · obtain ⟨g, rfl, hc⟩ := HX.out k _ (List.getElem?_eq_getElem hlt)
      obtain ⟨g', rfl, hc'⟩ := HY.out k _ (List.getElem?_eq_getElem hlt)
      have hk1 : k < c := by omega
      have hk2 : k < c' := by omega
      have e0 := hc 0 (by omega)
      have e1 := hc 1 (by omega)
      have e2 := hc' 0 (by omega)
      have e3 := hc' 1 (by omega)
      clear hc hc'
      generalize l[k] = a at *
      obtain ⟨p, t⟩ := a
      obtain ⟨sp, hsp⟩ : ∃ sp, sp = txt p := ⟨_, rfl⟩
      obtain ⟨st, hst⟩ : ∃ st, st = txt t := ⟨_, rfl⟩
      simp only [afCells, List.getElem?_cons_succ, List.getElem?_cons_zero, Nat.add_zero, ← hsp, ← hst] at e0 e1 e2 e3
      clear hsp hst
      have hi5 : (k : Int) < (l.length : Int) := by omega
      have hi6 : (0 : Int) ≤ (k : Int) := by omega
      go_wp2
      go_quiet (fail)
      go_wp2
      go_roundw
      case rel => exact ⟨k + 1, _, hlt, by go_num, rfl⟩
      case measure => simp [intOf]; omega
    · go_wp2
      go_ret
      exact ⟨rfl, below_drewN (Below.refl _ _) _⟩

theorem used_tree (bt : Nat) (X : Nat → Prop) (room : Int) (S : St) (w : World) (h : TreeS w X bt room S) (ho : OkS room S) :
    Calls Try.prog 30 #[.pointer (some ⟨bt, 0, none⟩)] w fun e w' => e = .returned (.int .i64 (used S.now : Nat)) ∧ Below w.heap.size w w' := by
  obtain ⟨nm, sm, pv, YN, YS, YP, LN, LS, hq, h1, h2⟩ := h
  have he : usedV LN = used S.now := by unfold usedV; rw [h1]
  have := used_any bt nm LN w hq.cells hq.now.map (by rw [he]; have := ho.bytes; omega)
  rw [he] at this
  exact this

/-- How it stands in alike. -/
def AlAt (W0 : World) (v : Value) (l : List AF) (W : World) : Prop := Below W0.heap.size W0 W ∧ RowA W (fun n => W0.heap.size ≤ n) v l
theorem AlAt.below {W0 W W' : World} {v : Value} {l : List AF} (h : AlAt W0 v l W) (hb : Below W.heap.size W W') : AlAt W0 v l W' := ⟨h.1.trans (hb.mono h.1.size), RowR.below h.2 hb (Nat.le_refl _)⟩

set_option maxRecDepth 100000 in
set_option maxHeartbeats 4000000 in
theorem alike_any (X Y : Nat → Prop) (bt bm : Nat) (room : Int) (n : Nat) (S : St) (w : World) (ht : TreeS w X bt room S) (hr : RefS w Y bm room S) (hg : Good room n S) (hn : n < 268435456) :
    Calls Try.prog 18 #[.agg #[.pointer (some ⟨bt, 0, none⟩), .pointer (some ⟨bm, 0, none⟩)]] w fun e w' => e = .returned (.bool true) ∧ Below w.heap.size w w' := by
  have hX := TreeR.lt ht
  have hY := hr.lt
  obtain ⟨P, vL, vS, vC, hp⟩ := id hr
  have hbm : bm < w.heap.size := hp.lt _ hp.xb
  have hok := hg.ok (by omega : n < 536870912)
  obtain ⟨oL, cL, hvL, l1, l2, _, l4⟩ := RowR.shape hp.now (fun _ => rfl)
  obtain ⟨oC, cC, hvC, k1, k2, _, k4⟩ := RowR.shape hp.row (fun _ => rfl)
  clear k4
  obtain ⟨N, hN⟩ : ∃ N, N = S.now.length := ⟨_, rfl⟩
  obtain ⟨M, hM⟩ : ∃ M, M = S.pend.length := ⟨_, rfl⟩
  rw [← hN] at hvL l1
  rw [← hM] at hvC k1
  have hN2 : N ≤ 200 := by rw [hN]; exact hg.files.len
  have hM2 : M ≤ 268435456 := by have := hg.pends; omega
  obtain ⟨W0, hW0⟩ : ∃ W0, W0 = w.alloc (.cells #[.pointer (some ⟨bt, 0, none⟩), .pointer (some ⟨bm, 0, none⟩)] 28) := ⟨_, rfl⟩
  have hb0 : Below w.heap.size w W0 := by rw [hW0]; exact (Below.refl _ w).alloc (Nat.le_refl _) _
  have hs0 : W0.heap.size = w.heap.size + 1 := by rw [hW0]; simp
  have hx0 : W0.heap[w.heap.size]? = some (.cells #[.pointer (some ⟨bt, 0, none⟩), .pointer (some ⟨bm, 0, none⟩)] 28 (0, 0)) := by rw [hW0]; exact World.alloc_heap_new w _
  have hw : ∀ W, Below W0.heap.size W0 W → Below w.heap.size w W := fun W hb => hb0.trans (hb.mono (by omega))
  have HB : Hid (∀ W, Below W0.heap.size W0 W → W.cell? ⟨w.heap.size, 0, none⟩ = some (.pointer (some ⟨bt, 0, none⟩)) ∧ W.cell? ⟨w.heap.size, 1, none⟩ = some (.pointer (some ⟨bm, 0, none⟩)) ∧ W.cell? ⟨bm, 2, none⟩ = some vL ∧ W.cell? ⟨bm, 4, none⟩ = some vC) := by
    intro W hb
    have hx := (hb.block _ (by omega)).trans hx0
    have hC := hp.cells.below (hw W hb) hbm
    exact ⟨by rw [Lib.cell_of_heap hx]; rfl, by rw [Lib.cell_of_heap hx]; rfl, hC.cell.2.2.1, hC.cell.2.2.2.2⟩
  have HA : Hid (∀ W, W = W0 → Calls Try.prog 26 #[.pointer (some ⟨bt, 0, none⟩)] W fun r w' => ∃ o c, r = .returned (.slice o N c) ∧ RowA w' (fun n => W0.heap.size ≤ n) (.slice o N c) (filesOf S.now) ∧ Below W0.heap.size W0 w') := by
    rintro W rfl
    refine (all_tree bt X room S W (TreeR.below ht hb0) hok (fun y hy => by have := hg.files.short y hy; omega)).mono ?_
    rintro r w' ⟨v, rfl, hv, hb⟩
    obtain ⟨o, c, rfl, _⟩ := hv.shape (fun _ => rfl)
    have e : (filesOf S.now).length = N := by rw [hN]; unfold filesOf; simp
    rw [e] at hv ⊢
    exact ⟨o, c, rfl, hv, hb⟩
  obtain ⟨u, hu⟩ : ∃ u, u = used S.now := ⟨_, rfl⟩
  obtain ⟨F, hF⟩ : ∃ F, F = filesOf S.now := ⟨_, rfl⟩
  rw [← hF] at HA
  have hFl : F.length = N := by rw [hF, hN]; unfold filesOf; simp
  have HU : Hid (∀ v W, AlAt W0 v F W → Calls Try.prog 30 #[.pointer (some ⟨bt, 0, none⟩)] W fun e w' => e = .returned (.int .i64 u) ∧ AlAt W0 v F w') := by
    intro v W hb
    rw [hu]
    exact (used_tree bt X room S W (TreeR.below ht (hw W hb.1)) hok).mono fun e w' h => ⟨h.1, hb.below h.2⟩
  have HV : Hid (∀ v W, AlAt W0 v F W → Calls Try.prog 47 #[.pointer (some ⟨bm, 0, none⟩)] W fun e w' => e = .returned (.int .i64 u) ∧ AlAt W0 v F w') := by
    intro v W hb
    rw [hu]
    exact (rUsed_good bm Y room n S W (hr.below (hw W hb.1)) hg).mono fun e w' h => ⟨h.1, by rw [← h.2]; exact hb⟩
  have HP : Hid (∀ v W, AlAt W0 v F W → Calls Try.prog 24 #[.pointer (some ⟨bt, 0, none⟩)] W fun e w' => e = .returned (.int .i64 M) ∧ AlAt W0 v F w') := by
    intro v W hb
    rw [hM]
    exact (pending_tree bt X room S W (TreeR.below ht (hw W hb.1))).mono fun e w' h => ⟨h.1, by rw [← h.2]; exact hb⟩
  have HL4 : Hid (∀ v W, AlAt W0 v F W → ∀ k (hk : k < N), ∃ (g : Nat) (p t : BS) (m : Int), oL = some ⟨g, 0, none⟩ ∧ W.cell? ⟨g, k * 3, none⟩ = some (.string (txt p)) ∧ W.cell? ⟨g, k * 3 + 1, none⟩ = some (.string (txt t)) ∧ W.cell? ⟨g, k * 3 + 2, none⟩ = some (.int .i64 m) ∧ F[k]? = some (p, t) ∧ t.length ≤ 16777216 ∧
      ∀ v W, AlAt W0 v F W → Calls Try.prog 28 #[.pointer (some ⟨bt, 0, none⟩), .string (txt p)] W fun r w' => r = .returned (.tuple #[.agg #[.int .i64 t.length, .int .i64 m], .int .i64 0]) ∧ Below W.heap.size W w') := by
    intro v W hb k hk
    rw [hN] at hk
    have hq := hp.below (hw W hb.1)
    obtain ⟨o, c, hv, _, _, _, q4⟩ := RowR.shape hq.now (fun _ => rfl)
    obtain ⟨g, hg', hc⟩ := q4 k _ (List.getElem?_eq_getElem hk)
    rw [hvL] at hv
    cases hv
    have hmem : S.now[k] ∈ S.now := List.getElem_mem hk
    have hlk : look S.now S.now[k].1 = some S.now[k].2 := look_of_mem hg.files.srt hmem
    have hsh := hg.files.short _ hmem
    have htx := hg.files.texts _ hmem
    have hFk : F[k]? = some (S.now[k].1, S.now[k].2.1) := by rw [hF]; unfold filesOf; simp [List.getElem?_map, List.getElem?_eq_getElem hk]
    generalize S.now[k] = y at *
    obtain ⟨p, t, m⟩ := y
    refine ⟨g, p, t, m, hg', hc 0 (by omega), hc 1 (by omega), hc 2 (by omega), hFk, htx, fun v W hb => ?_⟩
    have := stat_tree bt X (txt p) room S W (TreeR.below ht (hw W hb.1)) (by rw [txt_size]; simp only at hsh; omega)
    unfold opStat at this
    rw [txt_data, hlk] at this
    exact this
  have HAc : Hid (∀ o c W, AlAt W0 (.slice o N c) F W → ∀ k p t, k < N → F[k]? = some (p, t) → k < c ∧ ∃ g, o = some ⟨g, 0, none⟩ ∧ W.cell? ⟨g, k * 2, none⟩ = some (.string (txt p)) ∧ W.cell? ⟨g, k * 2 + 1, none⟩ = some (.string (txt t))) := by
    intro o c W hb k p t hk hFk
    obtain ⟨o', c', hv, q1, _, _, q4⟩ := hb.2.shape (fun _ => rfl)
    cases hv
    obtain ⟨g, hg', hc⟩ := q4 k _ hFk
    exact ⟨by omega, g, hg', hc 0 (by omega), hc 1 (by omega)⟩
  have HW := Lib.hid hW0
  have hb00 : Below W0.heap.size W0 W0 := Below.refl _ _
  subst hvL
  subst hvC
  obtain ⟨b0, b1, b2, b4⟩ := HB.out _ hb00
  have HX0 := Lib.hid hw
  clear hW0 hb0 hx0 hp ht hr hX hY hok l4 hM hu hw hN hg hF hFl
  go_enter Try.func18, Try.ntmps18
  go_wp2_with (go_at_call 26; refine (HA.out _ HW.out.symm).mono ?_; rintro e w1 ⟨oA, cA, rfl, hA, hb1⟩; have hA1 : AlAt W0 (.slice oA N cA) F w1 := ⟨hb1, hA⟩; have hA1d : AlAt W0 (.slice oA N cA) F w1.drew := hA1.below (below_drew (Below.refl _ _)))
  go_region_held3 (fun W => W.cell? ⟨w.heap.size, 0, none⟩ = some (.pointer (some ⟨bt, 0, none⟩)) ∧ W.cell? ⟨w.heap.size, 1, none⟩ = some (.pointer (some ⟨bm, 0, none⟩)) ∧ W.cell? ⟨bm, 2, none⟩ = some (.slice oL N cL) ∧ W.cell? ⟨bm, 4, none⟩ = some (.slice oC M cC))
    (first | exact HB.out _ (And.left (show AlAt W0 (.slice oA N cA) F _ by assumption)))
    (first
      | (go_at_call 30; refine (HU.out (.slice oA N cA) _ (by assumption)).mono ?_; rintro r w5 ⟨rfl, hb5⟩)
      | (go_at_call 47; refine (HV.out (.slice oA N cA) _ (by assumption)).mono ?_; rintro r w6 ⟨rfl, hb6⟩)
      | (go_at_call 24; refine (HP.out (.slice oA N cA) _ (by assumption)).mono ?_; rintro r w7 ⟨rfl, hb7⟩))
  go_wp2
  clear HA HU HV HP HW b0 b1 b2 b4
  go_loopw [4] (fun i wr => ∃ k : Nat, k ≤ N ∧ i = .int .i64 k ∧ AlAt W0 (.slice oA N cA) F wr) (fun i _ => N - (intOf i).toNat)
  case atStart => exact ⟨0, Nat.zero_le _, rfl, by assumption⟩
  case round =>
    obtain ⟨k, hk, rfl, hcr⟩ := hrel
    obtain ⟨b0, b1, b2, b4⟩ := HB.out _ hcr.1
    by_cases hlt : k < N
    · obtain ⟨g, p, t, m, rfl, f0, f1, f2, hFk, htl, hst⟩ := HL4.out _ _ hcr k hlt
      obtain ⟨hkc, ga, rfl, _⟩ := HAc.out _ _ _ hcr k p t hlt hFk
      have HS := Lib.hid hst
      have HFk := Lib.hid hFk
      obtain ⟨sp, hsp⟩ : ∃ sp, sp = txt p := ⟨_, rfl⟩
      obtain ⟨st, hst2⟩ : ∃ st, st = txt t := ⟨_, rfl⟩
      have hsz : t.length = st.size := by rw [hst2, txt_size]
      rw [← hsp, hsz] at HS
      rw [← hsp] at f0
      rw [← hst2] at f1
      have hst3 : st.size ≤ 16777216 := by omega
      have HSP := Lib.hid hsp
      have HST := Lib.hid hst2
      clear hst hFk hsp hst2 hsz
      obtain ⟨wq, hwq⟩ : ∃ wq, wq = wr.alloc (.cells #[.string sp, .string st, .int .i64 m] 81) := ⟨_, rfl⟩
      have hbq : Below wr.heap.size wr wq := by rw [hwq]; exact (Below.refl _ wr).alloc (Nat.le_refl _) _
      have hsq : wq.heap.size = wr.heap.size + 1 := by rw [hwq]; simp
      have hxq : wq.heap[wr.heap.size]? = some (.cells #[.string sp, .string st, .int .i64 m] 81 (0, 0)) := by rw [hwq]; exact World.alloc_heap_new wr _
      have hcq := hcr.below hbq
      have bq : (wr.alloc (.cells #[.string sp, .string st, .int .i64 m] 81)).cell? ⟨w.heap.size, 0, none⟩ = some (.pointer (some ⟨bt, 0, none⟩)) := by rw [← hwq]; exact (HB.out _ hcq.1).1
      have HQ := Lib.hid hwq
      clear hwq
      have hi5 : (k : Int) < (N : Int) := by omega
      have hi6 : (0 : Int) ≤ (k : Int) := by omega
      have hi7 : k < cL := by omega
      go_wp2_with (go_at_call 28; rw [← HQ.out]; refine (HS.out _ _ hcq).mono ?_; rintro e w2 ⟨rfl, hb2⟩)
      have hs2 := hb2.size
      have hbx : Below wq.heap.size wq (w2.alloc (.cells #[.int .i64 st.size, .int .i64 m] 50)) := hb2.alloc hs2 _
      have hx2 : (w2.alloc (.cells #[.int .i64 st.size, .int .i64 m] 50)).heap[w2.heap.size]? = some (.cells #[.int .i64 st.size, .int .i64 m] 50 (0, 0)) := World.alloc_heap_new w2 _
      generalize w2.alloc (.cells #[.int .i64 st.size, .int .i64 m] 50) = W3 at hbx hx2 ⊢
      have hc3 := hcq.below hbx
      have hxf := (hbx.block _ (by omega)).trans hxq
      obtain ⟨_, ga', hga', g0, g1⟩ := HAc.out _ _ _ hc3 k p t hlt HFk.out
      cases hga'
      rw [← HSP.out] at g0
      rw [← HST.out] at g1
      have m0 : W3.cell? ⟨wr.heap.size, 0, none⟩ = some (.string sp) := by rw [Lib.cell_of_heap hxf]; rfl
      have m1 : W3.cell? ⟨wr.heap.size, 1, none⟩ = some (.string st) := by rw [Lib.cell_of_heap hxf]; rfl
      have m2 : W3.cell? ⟨wr.heap.size, 2, none⟩ = some (.int .i64 m) := by rw [Lib.cell_of_heap hxf]; rfl
      have n0 : W3.cell? ⟨w2.heap.size, 0, none⟩ = some (.int .i64 st.size) := by rw [Lib.cell_of_heap hx2]; rfl
      have n1 : W3.cell? ⟨w2.heap.size, 1, none⟩ = some (.int .i64 m) := by rw [Lib.cell_of_heap hx2]; rfl
      clear hbx hx2 hxf hcq hcr hxq hbq hb2 hs2
      go_quiet (fail)
      go_wp2
      go_roundw
      case rel => exact ⟨k + 1, hlt, by go_num, hc3.below (below_drewN (Below.refl _ _) _)⟩
      case measure => simp [intOf]; omega
    · go_wp2
      go_ret
      exact ⟨rfl, HX0.out _ hcr.1⟩

end Go.Proofs.Ytginlknlkbhgaaa
