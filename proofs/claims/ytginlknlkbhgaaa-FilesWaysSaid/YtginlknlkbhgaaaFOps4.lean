/-
  What Stat, Pending, New and Sync answer, and what they leave of a tree.
-/
import Derived.Test.YtginlknlkbhgaaaFOps3
namespace Go.Proofs.Ytginlknlkbhgaaa
open Go.RowKit Go.Shelf Go.Maps

set_option maxRecDepth 100000 in
set_option maxHeartbeats 2000000 in
theorem pending_tree (bt : Nat) (X : Nat → Prop) (room : Int) (S : St) (w : World) (h : TreeS w X bt room S) :
    Calls Try.prog 24 #[.pointer (some ⟨bt, 0, none⟩)] w fun r w' => r = .returned (.int .i64 (S.pend.length : Nat)) ∧ w = w' := by
  obtain ⟨nm, sm, pv, YN, YS, YP, LN, LS, hq, h1, h2⟩ := id h
  obtain ⟨o, c, rfl, _⟩ := hq.row.shape (fun _ => rfl)
  have c4 := hq.cells.cell.2.2.2.2
  clear h hq h1 h2
  go_enter Try.func24, Try.ntmps24
  go_wp2
  go_ret
  exact ⟨rfl, rfl⟩

theorem tree_new (w : World) (room : Int) : TreeS (w.alloc (.cells #[.int .i64 room, .int .i64 0, .map none, .map none, .slice none 0 0] 67)) (fun n => n = w.heap.size) w.heap.size room (0, [], [], []) := by
  have hE : ∀ W : World, NowR W (fun _ => False) none [] := fun W => ⟨by simp, .inl ⟨rfl, rfl⟩, by simp, fun _ => 0, by simp, by simp⟩
  refine ⟨none, none, .slice none 0 0, fun _ => False, fun _ => False, fun _ => False, [], [], ⟨World.alloc_heap_new w _, hE _, hE _, RowR.nil _ _ _ _ _, rfl, fun _ h => h.elim, fun _ h => h.elim, fun _ h => h.elim, id, id, id, fun _ h => h.elim, fun _ h => h.elim, fun _ h => h.elim, fun n hn => by rw [hn]; simp⟩, rfl, rfl⟩

set_option maxRecDepth 100000 in
set_option maxHeartbeats 2000000 in
theorem new_ok (room : Int) (h0 : 1 ≤ room) (h1 : room ≤ 1073741824) (w : World) :
    Calls Try.prog 32 #[.int .i64 room] w fun r w' => r = .returned (.tuple #[.pointer (some ⟨w.heap.size, 0, none⟩), .int .i64 0]) ∧ TreeS w' (fun n => n = w.heap.size) w.heap.size room (0, [], [], []) ∧ Below w.heap.size w w' := by
  have e1 : ¬ room < 1 := by omega
  have e2 : ¬ 1073741824 < room := by omega
  have HT := Lib.hid (tree_new w room)
  go_enter Try.func32, Try.ntmps32
  go_wp2
  go_ret2
  exact ⟨rfl, HT.out, (Below.refl _ w).alloc (Nat.le_refl _) _⟩

set_option maxRecDepth 100000 in
set_option maxHeartbeats 2000000 in
theorem new_err (room : Int) (h : room < 1 ∨ 1073741824 < room) (w : World) :
    Calls Try.prog 32 #[.int .i64 room] w fun r w' => r = .returned (.tuple #[.pointer none, .int .i64 1]) ∧ w = w' := by
  by_cases h1 : room < 1
  · clear h
    go_enter Try.func32, Try.ntmps32
    go_wp2
    go_ret2
    exact ⟨rfl, rfl⟩
  · have h2 : 1073741824 < room := by omega
    clear h
    go_enter Try.func32, Try.ntmps32
    go_wp2
    go_ret2
    exact ⟨rfl, rfl⟩

def opS (S : St) : St := (S.clock, S.now, S.now, [])

set_option maxRecDepth 100000 in
set_option maxHeartbeats 2000000 in
theorem sync_tree (bt : Nat) (X : Nat → Prop) (room : Int) (S : St) (w : World) (h : TreeS w X bt room S) (hfl : S.now.length ≤ 200) :
    Calls Try.prog 22 #[.pointer (some ⟨bt, 0, none⟩)] w fun r w' => r = .returned (.tuple #[]) ∧ StepS w X bt room (opS S) w' := by
  obtain ⟨nm, sm, pv, YN, YS, YP, LN, LS, hq, h1, h2⟩ := id h
  have c2 := hq.cells.cell.2.2.1
  have hlt := hq.cells.lt
  have hXl := hq.lt
  have HC : Hid (Calls Try.prog 34 #[.map nm] w fun e w' => e = .returned (.map (some w.heap.size)) ∧ TreeC w' bt room S.clock nm sm pv ∧ (IsM w' w.heap.size (bare LN) ∧ Below w.heap.size w w')) :=
    (clone_any nm LN w hq.now.map (by rw [← strip_length, h1]; omega)).mono (fun e w' hr => ⟨hr.1, hq.cells.below hr.2.2 hlt, hr.2⟩)
  have HQ := Lib.hid hq
  have H1 := Lib.hid h1
  clear h hq h1 h2
  go_enter Try.func22, Try.ntmps22
  go_wp2_with (go_at_call 34; refine (HC.out).mono ?_; rintro e w1 ⟨rfl, hT1, hMB⟩; have d3 := hT1.cell.2.2.2.1; have d4 := hT1.cell.2.2.2.2; have f3 := hT1.frozen 3; have f4 := hT1.frozen 4; have HMB := Lib.hid hMB; clear hMB)
  go_end0
  obtain ⟨hM, hB⟩ := HMB.out
  refine ⟨rfl, ?_⟩
  obtain ⟨W, hW⟩ : ∃ W, W = (w1.setCell ⟨bt, 3, none⟩ (.map (some w.heap.size))).setCell ⟨bt, 4, none⟩ (.slice none 0 0) := ⟨_, rfl⟩
  have hTW : Turned (fun n => n = bt) w1 W := by rw [hW]; exact (Turned.setCell (X := fun n => n = bt) w1 ⟨bt, 3, none⟩ _ rfl).trans (Turned.setCell (X := fun n => n = bt) _ ⟨bt, 4, none⟩ _ rfl)
  have hCW : TreeC W bt room S.clock nm (some w.heap.size) (.slice none 0 0) := by
    rw [hW]
    unfold TreeC at hT1
    simp [TreeC, World.setCell, Array.getElem?_modify, hT1]
  rw [← hW]
  have hq := HQ.out
  have hB1 := turned_below hB
  have hN := (hq.now.kept hB1 (fun _ _ => id)).kept hTW (fun n hn (hx : n = bt) => hq.tn (hx ▸ hn))
  have hS := (NowR.bare hM).kept hTW (fun n (hn : n = w.heap.size) (hx : n = bt) => by omega)
  have hs1 := hB.size
  have hs2 := hTW.size
  have hlw := hM.lt
  refine ⟨fun n => X n ∨ n = w.heap.size, ⟨nm, some w.heap.size, .slice none 0 0, YN, fun n => n = w.heap.size, fun _ => False, LN, bare LN, ⟨hCW, hN, hS, RowR.nil _ _ _ _ _, .inl hq.xt, fun n hn => .inl (hq.xn n hn), fun n hn => .inr hn, fun _ hn => hn.elim, hq.tn, fun hn => by omega, id, fun n hn (hx : n = w.heap.size) => by have := hXl n (hq.xn n hn); omega, fun n _ => id, fun n _ => id, fun n hn => ?_⟩, H1.out, by rw [strip_bare]; exact H1.out⟩,
    ((hB1.wider (fun _ h => h.elim)).andThen hTW (fun n hn => .inl (by rw [hn]; exact hq.xt))), fun n hn => hn.elim .inl (fun h => .inr (by omega))⟩
  rcases hn with h | h
  · have := hXl n h; omega
  · omega

set_option maxRecDepth 100000 in
set_option maxHeartbeats 2000000 in
theorem stat_tree (bt : Nat) (X : Nat → Prop) (p : ByteArray) (room : Int) (S : St) (w : World) (h : TreeS w X bt room S) (hp : p.size ≤ 1048576) :
    Calls Try.prog 28 #[.pointer (some ⟨bt, 0, none⟩), .string p] w fun r w' => r = .returned (.tuple #[.agg #[.int .i64 (opStat S p.data.toList).1, .int .i64 (opStat S p.data.toList).2.1], .int .i64 (opStat S p.data.toList).2.2]) ∧ Below w.heap.size w w' := by
  have hpm : p.size ≤ maxLen := by unfold maxLen; omega
  obtain ⟨nm, sm, pv, YN, YS, YP, LN, LS, hq, h1, h2⟩ := id h
  obtain ⟨W, hW⟩ : ∃ W, W = w.alloc (.cells #[.int .i64 0, .int .i64 0] 50) := ⟨_, rfl⟩
  have hB0 : Below w.heap.size w W := by rw [hW]; exact (Below.refl _ w).alloc (Nat.le_refl _) _
  have hsW : W.heap.size = w.heap.size + 1 := by rw [hW]; simp
  have hc0 := hq.cells.below hB0 hq.cells.lt
  have hm0 := hq.now.map.below hB0 (Nat.le_refl _)
  have hx0 : W.heap[w.heap.size]? = some (.cells #[.int .i64 0, .int .i64 0] 50 (0, 0)) := by rw [hW]; exact World.alloc_heap_new w _
  have c2 := hc0.cell.2.2.1
  unfold opStat
  cases hl : look S.now p.data.toList with
  | none =>
    have HH : Hid (Calls Try.prog 48 #[.map nm, .string p] W fun e w' => e = .returned (.bool false) ∧ Below w.heap.size w w' ∧ w'.heap[w.heap.size]? = some (.cells #[.int .i64 0, .int .i64 0] 50 (0, 0))) :=
      (has_tree nm LN S.now h1 p hpm W hm0 false (by rw [hl]; rfl)).mono (fun e w' hr => ⟨hr.1, hB0.trans (hr.2.mono (by omega)), (hr.2.block _ (by omega)).trans hx0⟩)
    clear h hq h1 h2 hl hc0 hm0 hB0
    subst hW
    go_enter Try.func28, Try.ntmps28
    go_wp2_with (go_at_call 48; refine (HH.out).mono ?_; rintro e w1 ⟨rfl, hb, hx⟩; have y0 : w1.cell? ⟨w.heap.size, 0, none⟩ = some (.int .i64 0) := (by rw [Lib.cell_of_heap hx]; rfl); have y1 : w1.cell? ⟨w.heap.size, 1, none⟩ = some (.int .i64 0) := (by rw [Lib.cell_of_heap hx]; rfl); have z0 := Lib.frozen_of_heap hx 0; have z1 := Lib.frozen_of_heap hx 1)
    have hh : ((w1.setCell ⟨w.heap.size, 0, none⟩ (.int .i64 0)).setCell ⟨w.heap.size, 1, none⟩ (.int .i64 0)).heap[w.heap.size]? = some (.cells #[.int .i64 0, .int .i64 0] 50 (0, 0)) := by simp [World.setCell, Array.getElem?_modify, hx]
    have hb2 : Below w.heap.size w ((w1.setCell ⟨w.heap.size, 0, none⟩ (.int .i64 0)).setCell ⟨w.heap.size, 1, none⟩ (.int .i64 0)) := (hb.setCell (p := ⟨w.heap.size, 0, none⟩) (Nat.le_refl _) _).setCell (p := ⟨w.heap.size, 1, none⟩) (Nat.le_refl _) _
    generalize ((w1.setCell ⟨w.heap.size, 0, none⟩ (.int .i64 0)).setCell ⟨w.heap.size, 1, none⟩ (.int .i64 0)) = W2 at hh hb2 ⊢
    have q0 : W2.cell? ⟨w.heap.size, 0, none⟩ = some (.int .i64 0) := by rw [Lib.cell_of_heap hh]; rfl
    have q1 : W2.cell? ⟨w.heap.size, 1, none⟩ = some (.int .i64 0) := by rw [Lib.cell_of_heap hh]; rfl
    exact bodyPost_ret (v := .tuple #[.agg #[.int .i64 0, .int .i64 0], .int .i64 4]) (by simp [results, Try.results28, go_sem, q0, q1]) rfl ⟨rfl, hb2⟩
  | some v =>
    obtain ⟨ve, hv⟩ := look_fd h1 hl
    obtain ⟨vt, vm⟩ := v
    have HH : Hid (Calls Try.prog 48 #[.map nm, .string p] W fun e w' => e = .returned (.bool true) ∧ CkAt w w' ∧ w'.heap[w.heap.size]? = some (.cells #[.int .i64 0, .int .i64 0] 50 (0, 0))) :=
      (has_tree nm LN S.now h1 p hpm W hm0 true (by rw [hl]; rfl)).mono (fun e w' hr => ⟨hr.1, hB0.trans (hr.2.mono (by omega)), (hr.2.block _ (by omega)).trans hx0⟩)
    have HC2 : Hid (∀ w1, CkAt w w1 → w1.cell? ⟨bt, 2, none⟩ = some (.map nm)) := fun w1 hb => (hq.cells.below hb hq.cells.lt).cell.2.2.1
    have HL : Hid (∀ w1, CkAt w w1 → (Instr.lookup 64 (.map nm) (.string p) false).run Try.prog w1 = .ok (.agg #[.string (txt vt), .int .i64 vm, .pointer (endA ve)]) w1) := by
      intro w1 h1
      have := (hq.now.map.below h1 (Nat.le_refl _)).look p hpm
      rwa [hv] at this
    clear h hq h1 h2 hl hc0 hm0 hB0 hv
    subst hW
    go_enter Try.func28, Try.ntmps28
    go_wp2_with (go_at_call 48; refine (HH.out).mono ?_; rintro e w1 ⟨rfl, hb, hx⟩; have c3 := HC2.out w1 hb; have hl3 := HL.out w1 hb; have hxl := (Array.getElem?_eq_some_iff.1 hx).1; have y0 : w1.cell? ⟨w.heap.size, 0, none⟩ = some (.int .i64 0) := (by rw [Lib.cell_of_heap hx]; rfl); have y1 : w1.cell? ⟨w.heap.size, 1, none⟩ = some (.int .i64 0) := (by rw [Lib.cell_of_heap hx]; rfl); have z0 := Lib.frozen_of_heap hx 0; have z1 := Lib.frozen_of_heap hx 1)
    have hh : (((w1.setCell ⟨w.heap.size, 0, none⟩ (.int .i64 (vt.length : Nat))).setCell ⟨w.heap.size, 1, none⟩ (.int .i64 vm)).alloc (.cells #[.string (txt vt), .int .i64 vm, .pointer (endA ve)] 85)).heap[w.heap.size]? = some (.cells #[.int .i64 (vt.length : Nat), .int .i64 vm] 50 (0, 0)) := by
      refine (Below.heap_alloc _ _ _ (by simpa using hxl)).trans ?_
      simp [World.setCell, Array.getElem?_modify, hx]
    have hb2 : Below w.heap.size w (((w1.setCell ⟨w.heap.size, 0, none⟩ (.int .i64 (vt.length : Nat))).setCell ⟨w.heap.size, 1, none⟩ (.int .i64 vm)).alloc (.cells #[.string (txt vt), .int .i64 vm, .pointer (endA ve)] 85)) := ((hb.setCell (p := ⟨w.heap.size, 0, none⟩) (Nat.le_refl _) _).setCell (p := ⟨w.heap.size, 1, none⟩) (Nat.le_refl _) _).alloc (by simp; omega) _
    generalize (((w1.setCell ⟨w.heap.size, 0, none⟩ (.int .i64 (vt.length : Nat))).setCell ⟨w.heap.size, 1, none⟩ (.int .i64 vm)).alloc (.cells #[.string (txt vt), .int .i64 vm, .pointer (endA ve)] 85)) = W2 at hh hb2 ⊢
    have q0 : W2.cell? ⟨w.heap.size, 0, none⟩ = some (.int .i64 (vt.length : Nat)) := by rw [Lib.cell_of_heap hh]; rfl
    have q1 : W2.cell? ⟨w.heap.size, 1, none⟩ = some (.int .i64 vm) := by rw [Lib.cell_of_heap hh]; rfl
    exact bodyPost_ret (v := .tuple #[.agg #[.int .i64 (vt.length : Nat), .int .i64 vm], .int .i64 0]) (by simp [results, Try.results28, go_sem, q0, q1]) rfl ⟨rfl, hb2⟩

end Go.Proofs.Ytginlknlkbhgaaa
