/-
  The program's tree and the document's, side by side.
  The statements' own pick.
  The statements' own begun.
  The statements' own alike: whether a tree has just the document's files.
  Some trees, each in blocks of its own; what is done to one leaves the others. No condition.
  The trees in a box of the call's own; what came since, kept. As FLaws has it, with any base; FLaws' own.
  The chapter's laws, of what acts leave of the files: no program. No condition.
-/
import Derived.Deep.QuietTactic
import Derived.BigQuiet
import Derived.Deep.RegionHeld3
import Derived.Test.YtchnbnmajagpjaaGreatDoorBS
namespace Go.Proofs.YtchnbnmajagpjaaGreatDoor
open Go.RowKit Go.Shelf Go.Maps

/-! ### both trees -/
/-- The program's tree with S, the document's with T: apart. -/
def TwoS (w0 : World) (X Y : Nat → Prop) (bt bm : Nat) (room : Int) (S T : St) (w : World) : Prop :=
  ∃ X' Y', TreeS w X' bt room S ∧ RefS w Y' bm room T ∧ Disj X' Y' ∧ Turned (fun n => X n ∨ Y n) w0 w ∧ (∀ n, X' n → X n ∨ w0.heap.size ≤ n) ∧ (∀ n, Y' n → Y n ∨ w0.heap.size ≤ n)
section
variable {w0 w w' : World} {X Y : Nat → Prop} {bt bm : Nat} {room : Int} {S S' T T' : St}
theorem TreeS.below {w w' : World} {X : Nat → Prop} {bt : Nat} {room : Int} {S : St} (h : TreeS w X bt room S) (hb : Below w.heap.size w w') : TreeS w' X bt room S := TreeR.below h hb
theorem TwoS.start (h : TreeS w X bt room S) (h' : RefS w Y bm room T) (hd : Disj X Y) : TwoS w X Y bt bm room S T w := ⟨X, Y, h, h', hd, (turned_below (Below.refl _ w)).wider fun _ h => h.elim, fun _ => .inl, fun _ => .inl⟩
theorem TwoS.doT (h : TwoS w0 X Y bt bm room S T w) {f : FuncId} {args : Array Value} {v : Value} (hc : ∀ X', TreeS w X' bt room S → Calls Tryz.prog f args w fun r w' => r = .returned v ∧ StepS w X' bt room S' w') :
    Calls Tryz.prog f args w fun r w' => r = .returned v ∧ TwoS w0 X Y bt bm room S' T w' := by
  obtain ⟨X', Y', h1, h2, h3, h4, h5, h6⟩ := h
  have hs := h4.size
  refine (hc X' h1).mono ?_
  rintro r w' ⟨rfl, X2, k1, k2, k3⟩
  refine ⟨rfl, X2, Y', k1, h2.kept k2 (fun n hn hx => h3 n hx hn), fun n hn hy => ?_, h4.andThen k2 (fun n hn => (h5 n hn).elim (fun h => .inl (.inl h)) .inr), fun n hn => ?_, h6⟩
  · rcases k3 n hn with h | h
    · exact h3 n h hy
    · have := h2.lt n hy; omega
  · rcases k3 n hn with h | h
    · exact h5 n h
    · exact .inr (by omega)
theorem TwoS.doR (h : TwoS w0 X Y bt bm room S T w) {f : FuncId} {args : Array Value} {v : Value} (hc : ∀ Y', RefS w Y' bm room T → Calls Tryz.prog f args w fun r w' => r = .returned v ∧ RStep w Y' bm room T' w') :
    Calls Tryz.prog f args w fun r w' => r = .returned v ∧ TwoS w0 X Y bt bm room S T' w' := by
  obtain ⟨X', Y', h1, h2, h3, h4, h5, h6⟩ := h
  have hs := h4.size
  refine (hc Y' h2).mono ?_
  rintro r w' ⟨rfl, Y2, k1, k2, k3⟩
  refine ⟨rfl, X', Y2, TreeR.kept h1 k2 (fun n hn hx => h3 n hn hx), k1, fun n hn hy => ?_, h4.andThen k2 (fun n hn => (h6 n hn).elim (fun h => .inl (.inr h)) .inr), h5, fun n hn => ?_⟩
  · rcases k3 n hy with h | h
    · exact h3 n hn h
    · have := TreeR.lt h1 n hn; omega
  · rcases k3 n hn with h | h
    · exact h6 n h
    · exact .inr (by omega)
theorem TwoS.below (h : TwoS w0 X Y bt bm room S T w) (hb : Below w.heap.size w w') : TwoS w0 X Y bt bm room S T w' := by
  obtain ⟨X', Y', h1, h2, h3, h4, h5, h6⟩ := h
  exact ⟨X', Y', TreeR.below h1 hb, h2.below hb, h3, h4.trans ((turned_below hb).wider fun _ h => h.elim), h5, h6⟩
theorem TwoS.behind {w1 : World} (hb : Below w1.heap.size w1 w0) (h : TwoS w0 X Y bt bm room S T w) : TwoS w1 X Y bt bm room S T w := by
  obtain ⟨X', Y', h1, h2, h3, h4, h5, h6⟩ := h
  have := hb.size
  exact ⟨X', Y', h1, h2, h3, ((turned_below hb).wider fun _ h => h.elim).trans h4, fun n hn => (h5 n hn).elim .inl (fun h => .inr (by omega)), fun n hn => (h6 n hn).elim .inl (fun h => .inr (by omega))⟩
/-- What lies outside both stays. -/
theorem TwoS.cells (h : TwoS w0 X Y bt bm room S T w) {b : Nat} {cs : Array Value} {t : TypeId} {fz : Nat × Nat} (hb : w0.heap[b]? = some (.cells cs t fz)) (hx : ¬ X b) (hy : ¬ Y b) : w.heap[b]? = some (.cells cs t fz) := by
  obtain ⟨X', Y', h1, h2, h3, h4, h5, h6⟩ := h
  exact h4.cells hb (fun h => h.elim hx hy)
end

/-- The sizes that each call asks for. -/
theorem Good.tx {room : Int} {n : Nat} {S : St} (h : Good room n S) (p : BS) : (textOf S.now p).length ≤ 16777216 := by
  unfold textOf
  cases hl : look S.now p with
  | none => simp
  | some v => exact h.files.texts _ (look_mem hl)

end Go.Proofs.YtchnbnmajagpjaaGreatDoor

namespace Go.Proofs.YtchnbnmajagpjaaGreatDoor
open Go.RowKit Go.Shelf Go.Maps

def pickZ (c : Int) (n : Nat) : Nat := (if c < 0 then (-(c + 1)).toNat else c.toNat) % n

set_option maxRecDepth 100000 in
set_option maxHeartbeats 1000000 in
theorem pick_any (c : Int) (h0 : -9223372036854775808 ≤ c ∧ c ≤ 9223372036854775807) (n : Nat) (hn : 0 < n) (hn2 : n < 4611686018427387904) (w : World) :
    Calls Tryz.prog 11 #[.int .i64 c, .int .i64 n] w fun e w' => e = .returned (.int .i64 (pickZ c n : Nat)) ∧ w = w' := by
  by_cases hc : c < 0
  · obtain ⟨m, hm⟩ : ∃ m : Nat, -(c + 1) = (m : Int) := ⟨(-(c + 1)).toNat, by omega⟩
    have hp : pickZ c n = m % n := by unfold pickZ; rw [if_pos hc, hm]; rfl
    rw [hp]
    have hn1 : ¬ (n : Int) = 0 := by omega
    have hn3 : n ≠ 0 := by omega
    have hm2 : (m : Int) ≤ 9223372036854775807 := by omega
    have hq : (m : Int).tmod (n : Int) = ((m % n : Nat) : Int) := by rw [Int.tmod_eq_emod_of_nonneg (by omega)]; rfl
    go_enter Tryz.func11, Tryz.ntmps11
    go_wp2
    go_ret
    exact ⟨rfl, rfl⟩
  · obtain ⟨m, rfl⟩ : ∃ m : Nat, c = (m : Int) := ⟨c.toNat, by omega⟩
    have hp : pickZ (m : Int) n = m % n := by unfold pickZ; rw [if_neg hc]; rfl
    rw [hp]
    have hn1 : ¬ (n : Int) = 0 := by omega
    have hn3 : n ≠ 0 := by omega
    have hq : (m : Int).tmod (n : Int) = ((m % n : Nat) : Int) := by rw [Int.tmod_eq_emod_of_nonneg (by omega)]; rfl
    go_enter Tryz.func11, Tryz.ntmps11
    go_wp2
    go_ret
    exact ⟨rfl, rfl⟩


end Go.Proofs.YtchnbnmajagpjaaGreatDoor

namespace Go.Proofs.YtchnbnmajagpjaaGreatDoor
open Go.RowKit Go.Shelf Go.Maps

/-! ### begun -/
/-- Two new trees, apart, in blocks of the call's own. -/
def Begun (w : World) (bt bm : Nat) (room : Int) (w' : World) : Prop :=
  ∃ X Y, TreeS w' X bt room (0, [], [], []) ∧ RefS w' Y bm room (0, [], [], []) ∧ Disj X Y ∧ (∀ n, X n → w.heap.size ≤ n) ∧ (∀ n, Y n → w.heap.size ≤ n) ∧ Below w.heap.size w w'

set_option maxRecDepth 100000 in
set_option maxHeartbeats 2000000 in
theorem begun_ok (room : Int) (h0 : 1 ≤ room) (h1 : room ≤ 1073741824) (w : World) :
    Calls Tryz.prog 10 #[.int .i64 room] w fun e w' => ∃ bt bm, e = .returned (.tuple #[.agg #[.pointer (some ⟨bt, 0, none⟩), .pointer (some ⟨bm, 0, none⟩)], .bool true]) ∧ Begun w bt bm room w' := by
  obtain ⟨W, hW⟩ : ∃ W, W = w.alloc (.cells #[.pointer none, .pointer none] 28) := ⟨_, rfl⟩
  have hb0 : Below w.heap.size w W := by rw [hW]; exact (Below.refl _ w).alloc (Nat.le_refl _) _
  have hsW : W.heap.size = w.heap.size + 1 := by rw [hW]; simp
  have hx0 : W.heap[w.heap.size]? = some (.cells #[.pointer none, .pointer none] 28 (0, 0)) := by rw [hW]; exact World.alloc_heap_new w _
  have HN : Hid (Calls Tryz.prog 27 #[.int .i64 room] W fun r w1 => r = .returned (.tuple #[.pointer (some ⟨W.heap.size, 0, none⟩), .int .i64 0]) ∧ Below W.heap.size W w1 ∧ TreeS w1 (fun n => n = W.heap.size) W.heap.size room (0, [], [], [])) :=
    (new_ok room h0 h1 W).mono fun r w1 h => ⟨h.1, h.2.2, h.2.1⟩
  have HM : Hid (∀ w1, Below W.heap.size W w1 → TreeS w1 (fun n => n = W.heap.size) W.heap.size room (0, [], [], []) → Calls Tryz.prog 28 #[.int .i64 room] w1 fun r w2 => r = .returned (.tuple #[.pointer (some ⟨w1.heap.size, 0, none⟩), .int .i64 0]) ∧ w2.heap[w.heap.size]? = some (.cells #[.pointer none, .pointer none] 28 (0, 0)) ∧
      Begun w W.heap.size w1.heap.size room ((w2.setCell ⟨w.heap.size, 0, none⟩ (.pointer (some ⟨W.heap.size, 0, none⟩))).setCell ⟨w.heap.size, 1, none⟩ (.pointer (some ⟨w1.heap.size, 0, none⟩)))) := by
    intro w1 hb ht
    refine (rnew_ok room h0 h1 w1).mono ?_
    rintro r w2 ⟨rfl, hr, hb2⟩
    have hs1 := hb.size
    have hs2 := hb2.size
    have hlt := TreeR.lt ht _ rfl
    have hT : Turned (fun n => n = w.heap.size) w2 ((w2.setCell ⟨w.heap.size, 0, none⟩ (.pointer (some ⟨W.heap.size, 0, none⟩))).setCell ⟨w.heap.size, 1, none⟩ (.pointer (some ⟨w1.heap.size, 0, none⟩))) := (Turned.setCell (X := fun n => n = w.heap.size) w2 ⟨w.heap.size, 0, none⟩ _ rfl).trans (Turned.setCell (X := fun n => n = w.heap.size) _ ⟨w.heap.size, 1, none⟩ _ rfl)
    refine ⟨rfl, (hb2.block _ (by omega)).trans ((hb.block _ (by omega)).trans hx0), fun n => n = W.heap.size, fun n => n = w1.heap.size, TreeR.kept (TreeR.below ht hb2) hT (fun n (hn : n = W.heap.size) hx => by omega), hr.kept hT (fun n (hn : n = w1.heap.size) hx => by omega), fun n (hn : n = W.heap.size) (hx : n = w1.heap.size) => by omega, fun n (hn : n = W.heap.size) => by omega, fun n (hn : n = w1.heap.size) => by omega, ?_⟩
    exact ((hb0.trans (hb.mono (by omega))).trans (hb2.mono (by omega))).trans (hT.below (by omega) (fun n hn => by omega))
  rw [hsW] at HN HM
  clear hx0 hb0 h0 h1 hsW
  have HWs := Lib.hid hW
  clear hW
  go_enter Tryz.func10, Tryz.ntmps10
  go_wp2_with (first
    | (go_at_call 27; rw [← HWs.out]; refine (HN.out).mono ?_; rintro r w1 ⟨rfl, hb1, ht1⟩)
    | (go_at_call 28; refine (HM.out _ hb1 ht1).mono ?_; rintro r w2 ⟨rfl, hx2, hB⟩; have z0 : w2.cell? ⟨w.heap.size, 0, none⟩ = some (.pointer none) := (by rw [Lib.cell_of_heap hx2]; rfl); have z1 : w2.cell? ⟨w.heap.size, 1, none⟩ = some (.pointer none) := (by rw [Lib.cell_of_heap hx2]; rfl); have y0 := Lib.frozen_of_heap hx2 0; have y1 := Lib.frozen_of_heap hx2 1; have HBq := Lib.hid hB; clear hB))
  have hh : ((w2.setCell ⟨w.heap.size, 0, none⟩ (.pointer (some ⟨w.heap.size + 1, 0, none⟩))).setCell ⟨w.heap.size, 1, none⟩ (.pointer (some ⟨w1.heap.size, 0, none⟩))).heap[w.heap.size]? = some (.cells #[.pointer (some ⟨w.heap.size + 1, 0, none⟩), .pointer (some ⟨w1.heap.size, 0, none⟩)] 28 (0, 0)) := by simp [World.setCell, Array.getElem?_modify, hx2]
  have hB := HBq.out
  generalize ((w2.setCell ⟨w.heap.size, 0, none⟩ (.pointer (some ⟨w.heap.size + 1, 0, none⟩))).setCell ⟨w.heap.size, 1, none⟩ (.pointer (some ⟨w1.heap.size, 0, none⟩))) = W2 at hh hB ⊢
  have q0 : W2.cell? ⟨w.heap.size, 0, none⟩ = some (.pointer (some ⟨w.heap.size + 1, 0, none⟩)) := by rw [Lib.cell_of_heap hh]; rfl
  have q1 : W2.cell? ⟨w.heap.size, 1, none⟩ = some (.pointer (some ⟨w1.heap.size, 0, none⟩)) := by rw [Lib.cell_of_heap hh]; rfl
  exact bodyPost_ret (v := .tuple #[.agg #[.pointer (some ⟨w.heap.size + 1, 0, none⟩), .pointer (some ⟨w1.heap.size, 0, none⟩)], .bool true]) (by simp [results, Tryz.results10, go_sem, q0, q1]) rfl ⟨_, _, rfl, hB⟩

set_option maxRecDepth 100000 in
set_option maxHeartbeats 2000000 in
theorem begun_err (room : Int) (h0 : room < 1 ∨ 1073741824 < room) (w : World) :
    Calls Tryz.prog 10 #[.int .i64 room] w fun e w' => e = .returned (.tuple #[.agg #[.pointer none, .pointer none], .bool false]) ∧ Below w.heap.size w w' := by
  have HN := Lib.hid (new_err room h0)
  have HM := Lib.hid (rnew_err room h0)
  clear h0
  have hx0 : (w.alloc (.cells #[.pointer none, .pointer none] 28)).heap[w.heap.size]? = some (.cells #[.pointer none, .pointer none] 28 (0, 0)) := World.alloc_heap_new w _
  have hb0 : Below w.heap.size w (w.alloc (.cells #[.pointer none, .pointer none] 28)) := (Below.refl _ w).alloc (Nat.le_refl _) _
  go_enter Tryz.func10, Tryz.ntmps10
  go_wp2_with (first
    | (go_at_call 27; refine (HN.out _).mono ?_; rintro r w1 ⟨rfl, rfl⟩)
    | (go_at_call 28; refine (HM.out _).mono ?_; rintro r w2 ⟨rfl, rfl⟩))
  generalize w.alloc (.cells #[.pointer none, .pointer none] 28) = W2 at hx0 hb0 ⊢
  have q0 : W2.cell? ⟨w.heap.size, 0, none⟩ = some (.pointer none) := by rw [Lib.cell_of_heap hx0]; rfl
  have q1 : W2.cell? ⟨w.heap.size, 1, none⟩ = some (.pointer none) := by rw [Lib.cell_of_heap hx0]; rfl
  exact bodyPost_ret (v := .tuple #[.agg #[.pointer none, .pointer none], .bool false]) (by simp [results, Tryz.results10, go_sem, q0, q1]) rfl ⟨rfl, hb0⟩


end Go.Proofs.YtchnbnmajagpjaaGreatDoor

namespace Go.Proofs.YtchnbnmajagpjaaGreatDoor
open Go.RowKit Go.Shelf Go.Maps

abbrev RowA (w : World) (P : Nat → Prop) (v : Value) (l : List AF) : Prop := RowR 86 2 afCells w P v l

theorem used_tree (bt : Nat) (X : Nat → Prop) (room : Int) (S : St) (w : World) (h : TreeS w X bt room S) (ho : OkS room S) :
    Calls Tryz.prog 35 #[.pointer (some ⟨bt, 0, none⟩)] w fun e w' => e = .returned (.int .i64 (used S.now : Nat)) ∧ Below w.heap.size w w' := by
  obtain ⟨nm, sm, pv, YN, YS, YP, LN, LS, hq, h1, h2⟩ := h
  have he : usedV LN = used S.now := by unfold usedV; rw [h1]
  have := used_any bt nm LN w hq.cells hq.now.map (by rw [he]; have := ho.bytes; omega)
  rw [he] at this
  exact this

/-- How it stands in alike. -/
def AlAt (W0 : World) (v : Value) (l : List AF) (W : World) : Prop := Below W0.heap.size W0 W ∧ RowA W (fun n => W0.heap.size ≤ n) v l
theorem AlAt.below {W0 W W' : World} {v : Value} {l : List AF} (h : AlAt W0 v l W) (hb : Below W.heap.size W W') : AlAt W0 v l W' := ⟨h.1.trans (hb.mono h.1.size), RowR.below h.2 hb (Nat.le_refl _)⟩

set_option maxRecDepth 100000 in
set_option maxHeartbeats 4000000 in
theorem alike_any (X Y : Nat → Prop) (bt bm : Nat) (room : Int) (n : Nat) (S : St) (w : World) (ht : TreeS w X bt room S) (hr : RefS w Y bm room S) (hg : Good room n S) (hn : n < 268435456) :
    Calls Tryz.prog 14 #[.agg #[.pointer (some ⟨bt, 0, none⟩), .pointer (some ⟨bm, 0, none⟩)]] w fun e w' => e = .returned (.bool true) ∧ Below w.heap.size w w' := by
  have hX := TreeR.lt ht
  have hY := hr.lt
  obtain ⟨P, vL, vS, vC, hp⟩ := id hr
  have hbm : bm < w.heap.size := hp.lt _ hp.xb
  have hok := hg.ok (by omega : n < 536870912)
  obtain ⟨oL, cL, hvL, l1, l2, _, l4⟩ := RowR.shape hp.now (fun _ => rfl)
  obtain ⟨oC, cC, hvC, k1, k2, _, k4⟩ := RowR.shape hp.row (fun _ => rfl)
  clear k4
  obtain ⟨N, hN⟩ : ∃ N, N = S.now.length := ⟨_, rfl⟩
  obtain ⟨M, hM⟩ : ∃ M, M = S.pend.length := ⟨_, rfl⟩
  rw [← hN] at hvL l1
  rw [← hM] at hvC k1
  have hN2 : N ≤ 200 := by rw [hN]; exact hg.files.len
  have hM2 : M ≤ 268435456 := by have := hg.pends; omega
  obtain ⟨W0, hW0⟩ : ∃ W0, W0 = w.alloc (.cells #[.pointer (some ⟨bt, 0, none⟩), .pointer (some ⟨bm, 0, none⟩)] 28) := ⟨_, rfl⟩
  have hb0 : Below w.heap.size w W0 := by rw [hW0]; exact (Below.refl _ w).alloc (Nat.le_refl _) _
  have hs0 : W0.heap.size = w.heap.size + 1 := by rw [hW0]; simp
  have hx0 : W0.heap[w.heap.size]? = some (.cells #[.pointer (some ⟨bt, 0, none⟩), .pointer (some ⟨bm, 0, none⟩)] 28 (0, 0)) := by rw [hW0]; exact World.alloc_heap_new w _
  have hw : ∀ W, Below W0.heap.size W0 W → Below w.heap.size w W := fun W hb => hb0.trans (hb.mono (by omega))
  have HB : Hid (∀ W, Below W0.heap.size W0 W → W.cell? ⟨w.heap.size, 0, none⟩ = some (.pointer (some ⟨bt, 0, none⟩)) ∧ W.cell? ⟨w.heap.size, 1, none⟩ = some (.pointer (some ⟨bm, 0, none⟩)) ∧ W.cell? ⟨bm, 2, none⟩ = some vL ∧ W.cell? ⟨bm, 4, none⟩ = some vC) := by
    intro W hb
    have hx := (hb.block _ (by omega)).trans hx0
    have hC := hp.cells.below (hw W hb) hbm
    exact ⟨by rw [Lib.cell_of_heap hx]; rfl, by rw [Lib.cell_of_heap hx]; rfl, hC.cell.2.2.1, hC.cell.2.2.2.2⟩
  have HA : Hid (∀ W, W = W0 → Calls Tryz.prog 34 #[.pointer (some ⟨bt, 0, none⟩)] W fun r w' => ∃ o c, r = .returned (.slice o N c) ∧ RowA w' (fun n => W0.heap.size ≤ n) (.slice o N c) (filesOf S.now) ∧ Below W0.heap.size W0 w') := by
    rintro W rfl
    refine (all_tree bt X room S W (TreeR.below ht hb0) hok (fun y hy => by have := hg.files.short y hy; omega)).mono ?_
    rintro r w' ⟨v, rfl, hv, hb⟩
    obtain ⟨o, c, rfl, _⟩ := hv.shape (fun _ => rfl)
    have e : (filesOf S.now).length = N := by rw [hN]; unfold filesOf; simp
    rw [e] at hv ⊢
    exact ⟨o, c, rfl, hv, hb⟩
  obtain ⟨u, hu⟩ : ∃ u, u = used S.now := ⟨_, rfl⟩
  obtain ⟨F, hF⟩ : ∃ F, F = filesOf S.now := ⟨_, rfl⟩
  rw [← hF] at HA
  have hFl : F.length = N := by rw [hF, hN]; unfold filesOf; simp
  have HU : Hid (∀ v W, AlAt W0 v F W → Calls Tryz.prog 35 #[.pointer (some ⟨bt, 0, none⟩)] W fun e w' => e = .returned (.int .i64 u) ∧ AlAt W0 v F w') := by
    intro v W hb
    rw [hu]
    exact (used_tree bt X room S W (TreeR.below ht (hw W hb.1)) hok).mono fun e w' h => ⟨h.1, hb.below h.2⟩
  have HV : Hid (∀ v W, AlAt W0 v F W → Calls Tryz.prog 36 #[.pointer (some ⟨bm, 0, none⟩)] W fun e w' => e = .returned (.int .i64 u) ∧ AlAt W0 v F w') := by
    intro v W hb
    rw [hu]
    exact (rUsed_good bm Y room n S W (hr.below (hw W hb.1)) hg).mono fun e w' h => ⟨h.1, by rw [← h.2]; exact hb⟩
  have HP : Hid (∀ v W, AlAt W0 v F W → Calls Tryz.prog 37 #[.pointer (some ⟨bt, 0, none⟩)] W fun e w' => e = .returned (.int .i64 M) ∧ AlAt W0 v F w') := by
    intro v W hb
    rw [hM]
    exact (pending_tree bt X room S W (TreeR.below ht (hw W hb.1))).mono fun e w' h => ⟨h.1, by rw [← h.2]; exact hb⟩
  have HL4 : Hid (∀ v W, AlAt W0 v F W → ∀ k (hk : k < N), ∃ (g : Nat) (p t : BS) (m : Int), oL = some ⟨g, 0, none⟩ ∧ W.cell? ⟨g, k * 3, none⟩ = some (.string (txt p)) ∧ W.cell? ⟨g, k * 3 + 1, none⟩ = some (.string (txt t)) ∧ W.cell? ⟨g, k * 3 + 2, none⟩ = some (.int .i64 m) ∧ F[k]? = some (p, t) ∧ t.length ≤ 16777216 ∧
      ∀ v W, AlAt W0 v F W → Calls Tryz.prog 38 #[.pointer (some ⟨bt, 0, none⟩), .string (txt p)] W fun r w' => r = .returned (.tuple #[.agg #[.int .i64 t.length, .int .i64 m], .int .i64 0]) ∧ Below W.heap.size W w') := by
    intro v W hb k hk
    rw [hN] at hk
    have hq := hp.below (hw W hb.1)
    obtain ⟨o, c, hv, _, _, _, q4⟩ := RowR.shape hq.now (fun _ => rfl)
    obtain ⟨g, hg', hc⟩ := q4 k _ (List.getElem?_eq_getElem hk)
    rw [hvL] at hv
    cases hv
    have hmem : S.now[k] ∈ S.now := List.getElem_mem hk
    have hlk : look S.now S.now[k].1 = some S.now[k].2 := look_of_mem hg.files.srt hmem
    have hsh := hg.files.short _ hmem
    have htx := hg.files.texts _ hmem
    have hFk : F[k]? = some (S.now[k].1, S.now[k].2.1) := by rw [hF]; unfold filesOf; simp [List.getElem?_map, List.getElem?_eq_getElem hk]
    generalize S.now[k] = y at *
    obtain ⟨p, t, m⟩ := y
    refine ⟨g, p, t, m, hg', hc 0 (by omega), hc 1 (by omega), hc 2 (by omega), hFk, htx, fun v W hb => ?_⟩
    have := stat_tree bt X (txt p) room S W (TreeR.below ht (hw W hb.1)) (by rw [txt_size]; simp only at hsh; omega)
    unfold opStat at this
    rw [txt_data, hlk] at this
    exact this
  have HAc : Hid (∀ o c W, AlAt W0 (.slice o N c) F W → ∀ k p t, k < N → F[k]? = some (p, t) → k < c ∧ ∃ g, o = some ⟨g, 0, none⟩ ∧ W.cell? ⟨g, k * 2, none⟩ = some (.string (txt p)) ∧ W.cell? ⟨g, k * 2 + 1, none⟩ = some (.string (txt t))) := by
    intro o c W hb k p t hk hFk
    obtain ⟨o', c', hv, q1, _, _, q4⟩ := hb.2.shape (fun _ => rfl)
    cases hv
    obtain ⟨g, hg', hc⟩ := q4 k _ hFk
    exact ⟨by omega, g, hg', hc 0 (by omega), hc 1 (by omega)⟩
  have HW := Lib.hid hW0
  have hb00 : Below W0.heap.size W0 W0 := Below.refl _ _
  subst hvL
  subst hvC
  obtain ⟨b0, b1, b2, b4⟩ := HB.out _ hb00
  have HX0 := Lib.hid hw
  clear hW0 hb0 hx0 hp ht hr hX hY hok l4 hM hu hw hN hg hF hFl
  go_enter Tryz.func14, Tryz.ntmps14
  go_wp2_with (go_at_call 34; refine (HA.out _ HW.out.symm).mono ?_; rintro e w1 ⟨oA, cA, rfl, hA, hb1⟩; have hA1 : AlAt W0 (.slice oA N cA) F w1 := ⟨hb1, hA⟩; have hA1d : AlAt W0 (.slice oA N cA) F w1.drew := hA1.below (below_drew (Below.refl _ _)))
  go_region_held3 (fun W => W.cell? ⟨w.heap.size, 0, none⟩ = some (.pointer (some ⟨bt, 0, none⟩)) ∧ W.cell? ⟨w.heap.size, 1, none⟩ = some (.pointer (some ⟨bm, 0, none⟩)) ∧ W.cell? ⟨bm, 2, none⟩ = some (.slice oL N cL) ∧ W.cell? ⟨bm, 4, none⟩ = some (.slice oC M cC))
    (first | exact HB.out _ (And.left (show AlAt W0 (.slice oA N cA) F _ by assumption)))
    (first
      | (go_at_call 35; refine (HU.out (.slice oA N cA) _ (by assumption)).mono ?_; rintro r w5 ⟨rfl, hb5⟩)
      | (go_at_call 36; refine (HV.out (.slice oA N cA) _ (by assumption)).mono ?_; rintro r w6 ⟨rfl, hb6⟩)
      | (go_at_call 37; refine (HP.out (.slice oA N cA) _ (by assumption)).mono ?_; rintro r w7 ⟨rfl, hb7⟩))
  go_wp2
  clear HA HU HV HP HW b0 b1 b2 b4
  go_loopw [4] (fun i wr => ∃ k : Nat, k ≤ N ∧ i = .int .i64 k ∧ AlAt W0 (.slice oA N cA) F wr) (fun i _ => N - (intOf i).toNat)
  case atStart => exact ⟨0, Nat.zero_le _, rfl, by assumption⟩
  case round =>
    obtain ⟨k, hk, rfl, hcr⟩ := hrel
    obtain ⟨b0, b1, b2, b4⟩ := HB.out _ hcr.1
    by_cases hlt : k < N
    · obtain ⟨g, p, t, m, rfl, f0, f1, f2, hFk, htl, hst⟩ := HL4.out _ _ hcr k hlt
      obtain ⟨hkc, ga, rfl, _⟩ := HAc.out _ _ _ hcr k p t hlt hFk
      have HS := Lib.hid hst
      have HFk := Lib.hid hFk
      obtain ⟨sp, hsp⟩ : ∃ sp, sp = txt p := ⟨_, rfl⟩
      obtain ⟨st, hst2⟩ : ∃ st, st = txt t := ⟨_, rfl⟩
      have hsz : t.length = st.size := by rw [hst2, txt_size]
      rw [← hsp, hsz] at HS
      rw [← hsp] at f0
      rw [← hst2] at f1
      have hst3 : st.size ≤ 16777216 := by omega
      have HSP := Lib.hid hsp
      have HST := Lib.hid hst2
      clear hst hFk hsp hst2 hsz
      obtain ⟨wq, hwq⟩ : ∃ wq, wq = wr.alloc (.cells #[.string sp, .string st, .int .i64 m] 80) := ⟨_, rfl⟩
      have hbq : Below wr.heap.size wr wq := by rw [hwq]; exact (Below.refl _ wr).alloc (Nat.le_refl _) _
      have hsq : wq.heap.size = wr.heap.size + 1 := by rw [hwq]; simp
      have hxq : wq.heap[wr.heap.size]? = some (.cells #[.string sp, .string st, .int .i64 m] 80 (0, 0)) := by rw [hwq]; exact World.alloc_heap_new wr _
      have hcq := hcr.below hbq
      have bq : (wr.alloc (.cells #[.string sp, .string st, .int .i64 m] 80)).cell? ⟨w.heap.size, 0, none⟩ = some (.pointer (some ⟨bt, 0, none⟩)) := by rw [← hwq]; exact (HB.out _ hcq.1).1
      have HQ := Lib.hid hwq
      clear hwq
      have hi5 : (k : Int) < (N : Int) := by omega
      have hi6 : (0 : Int) ≤ (k : Int) := by omega
      have hi7 : k < cL := by omega
      go_wp2_with (go_at_call 38; rw [← HQ.out]; refine (HS.out _ _ hcq).mono ?_; rintro e w2 ⟨rfl, hb2⟩)
      have hs2 := hb2.size
      have hbx : Below wq.heap.size wq (w2.alloc (.cells #[.int .i64 st.size, .int .i64 m] 82)) := hb2.alloc hs2 _
      have hx2 : (w2.alloc (.cells #[.int .i64 st.size, .int .i64 m] 82)).heap[w2.heap.size]? = some (.cells #[.int .i64 st.size, .int .i64 m] 82 (0, 0)) := World.alloc_heap_new w2 _
      generalize w2.alloc (.cells #[.int .i64 st.size, .int .i64 m] 82) = W3 at hbx hx2 ⊢
      have hc3 := hcq.below hbx
      have hxf := (hbx.block _ (by omega)).trans hxq
      obtain ⟨_, ga', hga', g0, g1⟩ := HAc.out _ _ _ hc3 k p t hlt HFk.out
      cases hga'
      rw [← HSP.out] at g0
      rw [← HST.out] at g1
      have m0 : W3.cell? ⟨wr.heap.size, 0, none⟩ = some (.string sp) := by rw [Lib.cell_of_heap hxf]; rfl
      have m1 : W3.cell? ⟨wr.heap.size, 1, none⟩ = some (.string st) := by rw [Lib.cell_of_heap hxf]; rfl
      have m2 : W3.cell? ⟨wr.heap.size, 2, none⟩ = some (.int .i64 m) := by rw [Lib.cell_of_heap hxf]; rfl
      have n0 : W3.cell? ⟨w2.heap.size, 0, none⟩ = some (.int .i64 st.size) := by rw [Lib.cell_of_heap hx2]; rfl
      have n1 : W3.cell? ⟨w2.heap.size, 1, none⟩ = some (.int .i64 m) := by rw [Lib.cell_of_heap hx2]; rfl
      clear hbx hx2 hxf hcq hcr hxq hbq hb2 hs2
      go_quiet (fail)
      go_wp2
      go_roundw
      case rel => exact ⟨k + 1, hlt, by go_num, hc3.below (below_drewN (Below.refl _ _) _)⟩
      case measure => simp [intOf]; omega
    · go_wp2
      go_ret
      exact ⟨rfl, HX0.out _ hcr.1⟩

end Go.Proofs.YtchnbnmajagpjaaGreatDoor

namespace Go.Proofs.YtchnbnmajagpjaaGreatDoor
open Go.RowKit Go.Shelf Go.Maps

/-- A tree: the document's (true), or the program's; its block; what it holds. -/
abbrev Ent := Bool × (Nat × St)
def HoldsE (room : Int) (w : World) (X : Nat → Prop) (e : Ent) : Prop := if e.1 = true then RefS w X e.2.1 room e.2.2 else TreeS w X e.2.1 room e.2.2
theorem HoldsE.kept {room : Int} {w w' : World} {X Z : Nat → Prop} {e : Ent} (h : HoldsE room w X e) (hT : Turned Z w w') (hd : ∀ n, X n → ¬ Z n) : HoldsE room w' X e := by
  unfold HoldsE at *
  split
  · rename_i he; rw [if_pos he] at h; exact h.kept hT hd
  · rename_i he; rw [if_neg he] at h; exact TreeR.kept h hT hd
theorem HoldsE.lt {room : Int} {w : World} {X : Nat → Prop} {e : Ent} (h : HoldsE room w X e) : ∀ n, X n → n < w.heap.size := by
  unfold HoldsE at h
  split at h
  · exact h.lt
  · exact TreeR.lt h
/-- The trees of l, each in blocks of its own, all of Z. -/
def Ts (room : Int) (w : World) : List Ent → (Nat → Prop) → Prop
  | [], _ => True
  | e :: l, Z => ∃ X Y, HoldsE room w X e ∧ Ts room w l Y ∧ Disj X Y ∧ ∀ n, X n ∨ Y n → Z n
theorem Ts.kept {room : Int} {w w' : World} {Q : Nat → Prop} (hT : Turned Q w w') : ∀ {l : List Ent} {Z : Nat → Prop}, Ts room w l Z → (∀ n, Z n → ¬ Q n) → Ts room w' l Z
  | [], _, _, _ => trivial
  | _ :: _, _, ⟨X, Y, h1, h2, h3, h4⟩, hd => ⟨X, Y, h1.kept hT (fun n hn => hd n (h4 n (.inl hn))), Ts.kept hT h2 (fun n hn => hd n (h4 n (.inr hn))), h3, h4⟩
theorem Ts.wider {room : Int} {w : World} : ∀ {l : List Ent} {Z Z' : Nat → Prop}, Ts room w l Z → (∀ n, Z n → Z' n) → Ts room w l Z'
  | [], _, _, _, _ => trivial
  | _ :: _, _, _, ⟨X, Y, h1, h2, h3, h4⟩, hd => ⟨X, Y, h1, h2, h3, fun n hn => hd n (h4 n hn)⟩
theorem Ts.tight {room : Int} {w : World} : ∀ {l : List Ent} {Z : Nat → Prop}, Ts room w l Z → Ts room w l (fun n => Z n ∧ n < w.heap.size)
  | [], _, _ => trivial
  | _ :: _, _, ⟨X, Y, h1, h2, h3, h4⟩ => ⟨X, _, h1, Ts.tight h2, fun n hx hy => h3 n hx hy.1, fun n hn => by
    rcases hn with hn | hn
    · exact ⟨h4 n (.inl hn), h1.lt n hn⟩
    · exact ⟨h4 n (.inr hn.1), hn.2⟩⟩

/-- The trees of l lie in w, in blocks of Z; since w1 nothing outside Z has turned. -/
def At (w1 : World) (Z : Nat → Prop) (room : Int) (l : List Ent) (w : World) : Prop := Turned Z w1 w ∧ (∀ n, w.heap.size ≤ n → Z n) ∧ Ts room w l Z
section
variable {w1 w w' : World} {Z : Nat → Prop} {room : Int} {l : List Ent} {b c : Nat} {S S' T T' : St}
theorem At.below (h : At w1 Z room l w) (hb : Below w.heap.size w w') : At w1 Z room l w' :=
  ⟨h.1.trans ((turned_below hb).wider fun _ h => h.elim), fun n hn => h.2.1 n (by have := hb.size; omega), h.2.2.kept (turned_below hb) (fun _ _ => id)⟩
/-- What came since w stays from now on. -/
theorem At.since (h : At w1 Z room l w) (hb : Below w.heap.size w w') : At w' (fun n => Z n ∧ ¬ (w.heap.size ≤ n ∧ n < w'.heap.size)) room l w' :=
  ⟨(turned_below (Below.refl _ w')).wider fun _ h => h.elim, fun n hn => ⟨h.2.1 n (by have := hb.size; omega), by omega⟩, (h.2.2.tight.kept (turned_below hb) (fun _ _ => id)).wider fun n hn => ⟨hn.1, by omega⟩⟩
theorem At.cells (h : At w1 Z room l w) {b : Nat} {cs : Array Value} {t : TypeId} {fz : Nat × Nat} (hx : w1.heap[b]? = some (.cells cs t fz)) (hb : ¬ Z b) : w.heap[b]? = some (.cells cs t fz) := h.1.cells hx hb
theorem At.to (h : At w1 Z room l w) {w0 : World} (hb : Below w0.heap.size w0 w1) (hZ : ∀ n, Z n → w0.heap.size ≤ n) : Below w0.heap.size w0 w := hb.trans (h.1.below hb.size hZ)
theorem At.tail {e : Ent} (h : At w1 Z room (e :: l) w) : At w1 Z room l w := by
  obtain ⟨h0, h9, X, Y, h1, h2, h3, h4⟩ := h
  exact ⟨h0, h9, h2.wider (fun n hn => h4 n (.inr hn))⟩
theorem At.swap {e f : Ent} (h : At w1 Z room (e :: f :: l) w) : At w1 Z room (f :: e :: l) w := by
  obtain ⟨h0, h9, X, Y, h1, ⟨X2, Y2, k1, k2, k3, k4⟩, h3, h4⟩ := h
  refine ⟨h0, h9, X2, fun n => X n ∨ Y2 n, k1, ⟨X, Y2, h1, k2, fun n hx hy => h3 n hx (k4 n (.inr hy)), fun n hn => hn⟩, fun n hx hy => ?_, fun n hn => ?_⟩
  · rcases hy with hy | hy
    · exact h3 n hy (k4 n (.inl hx))
    · exact k3 n hx hy
  · rcases hn with hn | hn | hn
    · exact h4 n (.inr (k4 n (.inl hn)))
    · exact h4 n (.inl hn)
    · exact h4 n (.inr (k4 n (.inr hn)))
theorem Ts.swap {e f : Ent} {Z : Nat → Prop} (h : Ts room w (e :: f :: l) Z) : Ts room w (f :: e :: l) Z := by
  obtain ⟨X, Y, h1, ⟨X2, Y2, k1, k2, k3, k4⟩, h3, h4⟩ := h
  refine ⟨X2, fun n => X n ∨ Y2 n, k1, ⟨X, Y2, h1, k2, fun n hx hy => h3 n hx (k4 n (.inr hy)), fun n hn => hn⟩, fun n hx hy => ?_, fun n hn => ?_⟩
  · rcases hy with hy | hy
    · exact h3 n hy (k4 n (.inl hx))
    · exact k3 n hx hy
  · rcases hn with hn | hn | hn
    · exact h4 n (.inr (k4 n (.inl hn)))
    · exact h4 n (.inl hn)
    · exact h4 n (.inr (k4 n (.inr hn)))
/-- The third one to the front. -/
theorem At.third {e f g : Ent} (h : At w1 Z room (e :: f :: g :: l) w) : At w1 Z room (g :: e :: f :: l) w := by
  obtain ⟨h0, h9, X, Y, h1, h2, h3, h4⟩ := h
  exact At.swap ⟨h0, h9, X, Y, h1, h2.swap, h3, h4⟩
theorem At.look (h : At w1 Z room ((false, b, S) :: l) w) : ∃ X, TreeS w X b room S := by
  obtain ⟨h0, h9, X, Y, h1, _⟩ := h
  exact ⟨X, h1⟩
theorem At.lookR (h : At w1 Z room ((true, b, S) :: l) w) : ∃ X, RefS w X b room S := by
  obtain ⟨h0, h9, X, Y, h1, _⟩ := h
  exact ⟨X, h1⟩
/-- The first one turns. -/
theorem At.head {e e' : Ent} (h : At w1 Z room (e :: l) w) {f : FuncId} {args : Array Value} {Q : Ending → Prop}
    (hc : ∀ X, HoldsE room w X e → Calls Tryz.prog f args w fun r w' => Q r ∧ ∃ X', HoldsE room w' X' e' ∧ Turned X w w' ∧ ∀ n, X' n → X n ∨ w.heap.size ≤ n) :
    Calls Tryz.prog f args w fun r w' => Q r ∧ At w1 Z room (e' :: l) w' := by
  obtain ⟨h0, h9, X, Y, h1, h2, h3, h4⟩ := h
  refine (hc X h1).mono ?_
  rintro r w' ⟨hQ, X', k1, k2, k3⟩
  have hs := k2.size
  have h2' := h2.tight.kept k2 (fun n hn hx => h3 n hx hn.1)
  refine ⟨hQ, h0.trans (k2.wider fun n hn => h4 n (.inl hn)), fun n hn => h9 n (by omega), X', _, k1, h2', fun n hx hy => ?_, fun n hn => ?_⟩
  · rcases k3 n hx with h | h
    · exact h3 n h hy.1
    · have := hy.2; omega
  · rcases hn with hn | hn
    · rcases k3 n hn with h | h
      · exact h4 n (.inl h)
      · exact h9 n h
    · exact h4 n (.inr hn.1)
theorem At.tree (h : At w1 Z room ((false, b, S) :: l) w) {f : FuncId} {args : Array Value} {v : Value} (hc : ∀ X, TreeS w X b room S → Calls Tryz.prog f args w fun r w' => r = .returned v ∧ StepS w X b room S' w') :
    Calls Tryz.prog f args w fun r w' => r = .returned v ∧ At w1 Z room ((false, b, S') :: l) w' :=
  h.head (Q := fun r => r = .returned v) fun X hX => (hc X hX).mono fun _ _ ⟨k1, X', k2, k3, k4⟩ => ⟨k1, X', k2, k3, k4⟩
/-- The first two turn. -/
theorem At.two (h : At w1 Z room ((false, b, S) :: (true, c, T) :: l) w) {f : FuncId} {args : Array Value} {Q : Ending → Prop} (hc : ∀ X Y, TreeS w X b room S → RefS w Y c room T → Disj X Y → Calls Tryz.prog f args w fun r w' => Q r ∧ TwoS w X Y b c room S' T' w') :
    Calls Tryz.prog f args w fun r w' => Q r ∧ At w1 Z room ((false, b, S') :: (true, c, T') :: l) w' := by
  obtain ⟨h0, h9, X, Y, h1, ⟨X2, Y2, q1, q2, q3, q4⟩, h3, h4⟩ := h
  refine (hc X X2 h1 q1 (fun n hx hy => h3 n hx (q4 n (.inl hy)))).mono ?_
  rintro r w' ⟨hQ, X', Y', k1, k2, k3, k4, k5, k6⟩
  have hs := k4.size
  have q2' := q2.tight.kept k4 (fun n hn hx => hx.elim (fun hx => h3 n hx (q4 n (.inr hn.1))) (fun hx => q3 n hx hn.1))
  refine ⟨hQ, h0.trans (k4.wider fun n hn => hn.elim (fun hn => h4 n (.inl hn)) (fun hn => h4 n (.inr (q4 n (.inl hn))))), fun n hn => h9 n (by omega), X', fun n => Y' n ∨ (Y2 n ∧ n < w.heap.size), k1, ⟨Y', _, k2, q2', fun n hx hy => ?_, fun n hn => hn⟩, fun n hx hy => ?_, fun n hn => ?_⟩
  · rcases k6 n hx with h | h
    · exact q3 n h hy.1
    · have := hy.2; omega
  · rcases hy with hy | hy
    · exact k3 n hx hy
    · rcases k5 n hx with h | h
      · exact h3 n h (q4 n (.inr hy.1))
      · have := hy.2; omega
  · rcases hn with hn | hn | hn
    · rcases k5 n hn with h | h
      · exact h4 n (.inl h)
      · exact h9 n h
    · rcases k6 n hn with h | h
      · exact h4 n (.inr (q4 n (.inl h)))
      · exact h9 n h
    · exact h4 n (.inr (q4 n (.inr hn.1)))
theorem At.begun {w0 : World} (h : Begun w0 b c room w) : At w (fun n => w0.heap.size ≤ n) room [(false, b, (0, [], [], [])), (true, c, (0, [], [], []))] w := by
  obtain ⟨X, Y, h1, h2, h3, h4, h5, h6⟩ := h
  exact ⟨(turned_below (Below.refl _ w)).wider fun _ h => h.elim, fun n hn => Nat.le_trans h6.size hn, X, Y, h1, ⟨Y, fun _ => False, h2, trivial, fun _ _ h => h, fun n hn => hn.elim id False.elim⟩, h3, fun n hn => hn.elim (h4 n) (h5 n)⟩
end

/-! ### what is done to a program's tree that stands first -/
section
variable {w1 : World} {Z : Nat → Prop} {room : Int} {w : World} {l : List Ent} {b n : Nat} {S : St}
theorem At.write (h : At w1 Z room ((false, b, S) :: l) w) (hg : Good room n S) (hn : n < 268435456) (p s : ByteArray) (hp : p.size ≤ 1048576) (hs : s.size ≤ 1048576) :
    Calls Tryz.prog 84 #[.pointer (some ⟨b, 0, none⟩), .string p, .string s] w fun r w' => r = .returned (.int .i64 (opW room S p.data.toList s.data.toList).1) ∧ At w1 Z room ((false, b, (opW room S p.data.toList s.data.toList).2) :: l) w' :=
  h.tree fun X hX => write_tree b X p s room S w hX (hg.ok (by omega)) hp hs
theorem At.append (h : At w1 Z room ((false, b, S) :: l) w) (hg : Good room n S) (hn : n < 268435456) (p s : ByteArray) (hp : p.size ≤ 1048576) (hs : s.size ≤ 1048576) :
    Calls Tryz.prog 48 #[.pointer (some ⟨b, 0, none⟩), .string p, .string s] w fun r w' => r = .returned (.int .i64 (opA room S p.data.toList s.data.toList).1) ∧ At w1 Z room ((false, b, (opA room S p.data.toList s.data.toList).2) :: l) w' :=
  h.tree fun X hX => append_tree b X p s room S w hX (hg.ok (by omega)) hp hs (hg.tx _)
theorem At.remove (h : At w1 Z room ((false, b, S) :: l) w) (hg : Good room n S) (hn : n < 268435456) (p : ByteArray) (hp : p.size ≤ 1048576) :
    Calls Tryz.prog 52 #[.pointer (some ⟨b, 0, none⟩), .string p] w fun r w' => r = .returned (.int .i64 (opR S p.data.toList).1) ∧ At w1 Z room ((false, b, (opR S p.data.toList).2) :: l) w' :=
  h.tree fun X hX => remove_tree b X p room S w hX (hg.ok (by omega)) hp
theorem At.rename (h : At w1 Z room ((false, b, S) :: l) w) (hg : Good room n S) (hn : n < 268435456) (p q : ByteArray) (hp : p.size ≤ 1048576) (hq : q.size ≤ 1048576) :
    Calls Tryz.prog 85 #[.pointer (some ⟨b, 0, none⟩), .string p, .string q] w fun r w' => r = .returned (.int .i64 (opN S p.data.toList q.data.toList).1) ∧ At w1 Z room ((false, b, (opN S p.data.toList q.data.toList).2) :: l) w' :=
  h.tree fun X hX => rename_tree b X p q room S w hX (hg.ok (by omega)) hp hq
theorem At.sync (h : At w1 Z room ((false, b, S) :: l) w) (hg : Good room n S) :
    Calls Tryz.prog 26 #[.pointer (some ⟨b, 0, none⟩)] w fun r w' => r = .returned (.tuple #[]) ∧ At w1 Z room ((false, b, opS S) :: l) w' :=
  h.tree fun X hX => sync_tree b X room S w hX hg.files.len
theorem At.crash (h : At w1 Z room ((false, b, S) :: l) w) (hg : Good room n S) (many part : Int) (hp : part < 9223372036854775808) :
    Calls Tryz.prog 17 #[.pointer (some ⟨b, 0, none⟩), .int .i64 many, .int .i64 part] w fun r w' => r = .returned (.tuple #[]) ∧ At w1 Z room ((false, b, opC S many part) :: l) w' :=
  h.tree fun X hX => crash_tree b X room S many part w hX hg.run.head.len hg.run.goes hp
theorem At.files (h : At w1 Z room ((false, b, S) :: l) w) (hg : Good room n S) (hn : n < 268435456) :
    Calls Tryz.prog 34 #[.pointer (some ⟨b, 0, none⟩)] w fun r w' => ∃ o c, r = .returned (.slice o (filesOf S.now).length c) ∧ RowA w' (fun n => w.heap.size ≤ n) (.slice o (filesOf S.now).length c) (filesOf S.now) ∧ Below w.heap.size w w' := by
  obtain ⟨X, hX⟩ := h.look
  refine (all_tree b X room S w hX (hg.ok (by omega)) (fun y hy => by have := hg.files.short y hy; omega)).mono ?_
  rintro r w' ⟨v, rfl, hv, hb⟩
  obtain ⟨o, c, rfl, _⟩ := hv.shape (fun _ => rfl)
  exact ⟨o, c, rfl, hv, hb⟩
end

theorem rowA_cells {w w' : World} {P : Nat → Prop} {o : Option Addr} {n c : Nat} {al : List AF} (h : RowA w P (.slice o n c) al) (hb : Below w.heap.size w w') :
    n ≤ c ∧ ∀ k p t, al[k]? = some (p, t) → ∃ g, o = some ⟨g, 0, none⟩ ∧ w'.cell? ⟨g, k * 2, none⟩ = some (.string (txt p)) ∧ w'.cell? ⟨g, k * 2 + 1, none⟩ = some (.string (txt t)) := by
  obtain ⟨o', c', hv, q1, _, _, q4⟩ := (RowR.below h hb (Nat.le_refl _)).shape (fun _ => rfl)
  cases hv
  refine ⟨q1, fun k p t hk => ?_⟩
  obtain ⟨g, hg, hc⟩ := q4 k _ hk
  exact ⟨g, hg, hc 0 (by omega), hc 1 (by omega)⟩

end Go.Proofs.YtchnbnmajagpjaaGreatDoor

namespace Go.Proofs.YtchnbnmajagpjaaGreatDoor
open Go.RowKit Go.Shelf Go.Maps

theorem Begun.behind {w W w1 : World} {bt bm : Nat} {room : Int} (hb : Below w.heap.size w W) (h : Begun W bt bm room w1) : Begun w bt bm room w1 := by
  obtain ⟨X, Y, h1, h2, h3, h4, h5, h6⟩ := h
  have := hb.size
  exact ⟨X, Y, h1, h2, h3, fun n hn => by have := h4 n hn; omega, fun n hn => by have := h5 n hn; omega, hb.trans (h6.mono this)⟩

end Go.Proofs.YtchnbnmajagpjaaGreatDoor

namespace Go.Proofs.YtchnbnmajagpjaaGreatDoor

theorem after3_miss {l : Fs} {p a : BS} {t : Int} (h : look l p = none) : after l (3, p, a, t) = l := by
  unfold after
  rw [if_neg (show ¬ (3 : Nat) = 0 by decide), if_neg (show ¬ (3 : Nat) = 1 by decide), if_neg (show ¬ (3 : Nat) = 2 by decide)]
  show (match look l p with | none => l | some v => put (a, v) (drp p l)) = _
  rw [h]

/-! ### each file's path is one -/
abbrev NamedC (c : Ch) : Prop := c.kind ≤ 3 ∧ (c.kind ≤ 1 → pathB c.path = true) ∧ (c.kind = 3 → pathB c.arg = true)
abbrev NamedL (l : Fs) : Prop := ∀ y ∈ l, pathB y.1 = true
theorem named_after {l : Fs} {c : Ch} (h : NamedL l) (hc : NamedC c) : NamedL (after l c) := by
  obtain ⟨k, p, a, t⟩ := c
  obtain ⟨hk, h1, h2⟩ := hc
  have hk' : k ≤ 3 := hk
  have hput : ∀ (q : BS) (u : FD) (m : Fs), pathB q = true → NamedL m → NamedL (put (q, u) m) := by
    intro q u m hq hm y hy
    rcases mem_put.1 hy with rfl | hy
    · exact hq
    · exact hm y hy.1
  have hdrp : ∀ (q : BS) (m : Fs), NamedL m → NamedL (drp q m) := fun q m hm y hy => hm y (mem_drp.1 hy).1
  rcases (show k = 0 ∨ k = 1 ∨ k = 2 ∨ k = 3 by omega) with rfl | rfl | rfl | rfl
  · rw [after0]; exact hput _ _ _ (h1 (show (0 : Nat) ≤ 1 by decide)) h
  · rw [after1]; exact hput _ _ _ (h1 (show (1 : Nat) ≤ 1 by decide)) h
  · rw [after2]; exact hdrp _ _ h
  · cases hl : look l p with
    | none => rw [after3_miss hl]; exact h
    | some v => rw [after3_hitS hl]; exact hput _ _ _ (h2 rfl) (hdrp _ _ h)
theorem named_fold : ∀ {cs : List Ch} {l : Fs}, NamedL l → (∀ c ∈ cs, NamedC c) → NamedL (cs.foldl after l)
  | [], _, h, _ => h
  | c :: r, l, h, hc => named_fold (cs := r) (named_after h (hc c (by simp))) (fun d hd => hc d (by simp [hd]))
structure Named (S : St) : Prop where
  last : NamedL S.last
  pend : ∀ c ∈ S.pend, NamedC c
theorem Named.new : Named (0, [], [], []) := ⟨(by intro y hy; cases hy), (by intro c hc; cases hc)⟩
theorem Named.now {room : Int} {n : Nat} {S : St} (h : Named S) (hg : Good room n S) : NamedL S.now := by rw [← hg.now]; exact named_fold h.last h.pend
theorem Named.did {S : St} (h : Named S) (k : Nat) (p a : BS) (hc : NamedC (k, p, a, S.clock + 1)) : Named (doSt S k p a) := by
  refine ⟨h.last, fun c hm => ?_⟩
  rcases List.mem_append.1 (show c ∈ S.pend ++ [(k, p, a, S.clock + 1)] from hm) with hm | hm
  · exact h.pend c hm
  · rw [List.mem_singleton.1 hm]; exact hc
theorem Named.opR {S : St} (h : Named S) (p : BS) : Named (opR S p).2 := by
  unfold Proofs.YtchnbnmajagpjaaGreatDoor.opR
  split
  · exact h.did _ _ _ ⟨by simp [Ch.kind], fun h => absurd h (by simp [Ch.kind]), fun h => absurd h (by simp [Ch.kind])⟩
  · exact h
theorem Named.opW {room : Int} {S : St} (h : Named S) (p s : BS) : Named (opW room S p s).2 := by
  unfold Proofs.YtchnbnmajagpjaaGreatDoor.opW
  split
  · rename_i hc
    exact h.did _ _ _ ⟨by simp [Ch.kind], fun _ => (check_ok hc).1, fun h => absurd h (by simp [Ch.kind])⟩
  · exact h
theorem Named.opA {room : Int} {S : St} (h : Named S) (p s : BS) : Named (opA room S p s).2 := by
  unfold Proofs.YtchnbnmajagpjaaGreatDoor.opA
  split
  · rename_i hc
    exact h.did _ _ _ ⟨by simp [Ch.kind], fun _ => (check_ok hc).1, fun h => absurd h (by simp [Ch.kind])⟩
  · exact h
theorem Named.opN {S : St} (h : Named S) (p q : BS) : Named (opN S p q).2 := by
  unfold Proofs.YtchnbnmajagpjaaGreatDoor.opN
  split
  · exact h
  · split
    · exact h
    · rename_i hq
      split
      · exact h
      · split
        · exact h
        · exact h.did _ _ _ ⟨by simp [Ch.kind], fun h => absurd h (by simp [Ch.kind]), fun _ => by simpa using hq⟩
theorem Named.opS {room : Int} {n : Nat} {S : St} (h : Named S) (hg : Good room n S) : Named (opS S) := ⟨h.now hg, (by intro c hc; cases hc)⟩
theorem Named.crash {S : St} (h : Named S) (many part : Int) : Named (opC S many part) := by
  have ht : NamedL ((S.pend.take (crashN S many)).foldl after S.last) := named_fold h.last (fun c hc => h.pend c (List.mem_of_mem_take hc))
  refine ⟨?_, (by intro c hc; cases hc)⟩
  show NamedL (crashL S many part)
  unfold crashL
  cases hc : S.pend[crashN S many]? with
  | none => exact ht
  | some c =>
    by_cases hh : 1 ≤ part ∧ c.kind ≤ 1
    · simp only [if_pos hh]
      have hm := h.pend c (List.mem_of_getElem? hc)
      exact named_after ht ⟨hm.1, hm.2.1, fun h => absurd (show c.kind = 3 from h) (by omega)⟩
    · simp only [if_neg hh]; exact ht

/-! ### a file renamed, and renamed back -/
theorem removed {S : St} {b : BS} : look (opR S b).2.now b = none := by
  unfold opR
  cases hl : look S.now b with
  | none => simpa using hl
  | some v =>
    show look (after S.now (2, b, [], S.clock + 1)) b = none
    rw [after2]; exact look_drp_same b
theorem turn_pure {room : Int} {n : Nat} {S : St} (hg : Good room n S) (hN : Named S) (a b : BS) (hb : look S.now b = none) :
    ((opN S a b).1 ≠ 0 → (opN S a b).2 = S ∧ ((opStat S a).2.2 = 4 ↔ (opN S a b).1 = 4)) ∧
    ((opN S a b).1 = 0 → (opStat S a).2.2 = 0 ∧ (opN (opN S a b).2 b a).1 = 0 ∧ (opN (opN S a b).2 b a).2.now = S.now ∧ opStat (opN (opN S a b).2 b a).2 a = opStat S a) := by
  cases hl : look S.now a with
  | none =>
    have e : opN S a b = (4, S) := by unfold opN; rw [hl]; rfl
    rw [e]
    refine ⟨fun _ => ⟨rfl, ?_⟩, fun h => absurd h (by simp)⟩
    unfold opStat; rw [hl]
  | some v =>
    have hst : (opStat S a).2.2 = 0 := by unfold opStat; rw [hl]
    cases hp : pathB b with
    | false =>
      have e : opN S a b = (1, S) := by unfold opN; rw [hl, hp]; rfl
      rw [e, hst]
      exact ⟨fun _ => ⟨rfl, by simp⟩, fun h => absurd h (by simp)⟩
    | true =>
      have hab : a ≠ b := fun e => by rw [e, hb] at hl; cases hl
      cases hbk : blocked (drp a S.now) b with
      | true =>
        have e : opN S a b = (5, S) := by unfold opN; rw [hl, hp, hbk, if_neg hab]; rfl
        rw [e, hst]
        exact ⟨fun _ => ⟨rfl, by simp⟩, fun h => absurd h (by simp)⟩
      | false =>
        have e : opN S a b = (0, doSt S 3 a b) := by unfold opN; rw [hl, hp, hbk, if_neg hab]; rfl
        rw [e]
        refine ⟨fun h => absurd rfl h, fun _ => ⟨hst, ?_⟩⟩
        have hs := hg.files.srt
        have hmem := look_mem hl
        obtain ⟨S2, hS2⟩ : ∃ S2, S2 = doSt S 3 a b := ⟨_, rfl⟩
        have hnow : S2.now = put (b, v) (drp a S.now) := by rw [hS2]; exact after3_hitS hl
        have hl2 : look S2.now b = some v := by rw [hnow]; exact look_put_same (hs.drp a) b v
        have hpa : pathB a = true := hN.now hg (a, v) hmem
        have hbk2 : blocked (drp b S2.now) a = false := by
          refine blk_of fun y hy => ?_
          rw [hnow] at hy
          obtain ⟨hy, hyb⟩ := mem_drp.1 hy
          rcases mem_put.1 hy with rfl | hy
          · exact absurd rfl hyb
          · exact way_sym (hg.files.ways (a, v) hmem) y (mem_drp.1 hy.1).1
        have e2 : opN S2 b a = (0, doSt S2 3 b a) := by unfold opN; rw [hl2, hpa, hbk2, if_neg (Ne.symm hab)]; rfl
        rw [← hS2, e2]
        have hnow2 : (doSt S2 3 b a).now = S.now := by
          have h3 : (doSt S2 3 b a).now = put (a, v) (drp b S2.now) := after3_hitS hl2
          have hs2 : Srt S2.now := by rw [hnow]; exact (hs.drp a).put _
          rw [h3]
          refine look_srt_ext ((hs2.drp b).put _) hs (fun p => ?_)
          by_cases hpa : p = a
          · rw [hpa, look_put_same (hs2.drp b) a v, hl]
          · rw [look_put_other (hs2.drp b) hpa]
            by_cases hpb : p = b
            · rw [hpb, look_drp_same, hb]
            · rw [look_drp_other hs2 hpb, hnow, look_put_other (hs.drp a) hpb, look_drp_other hs hpa]
        refine ⟨rfl, hnow2, ?_⟩
        unfold opStat
        rw [hnow2]

/-! ### sizes and times -/
theorem opN_err {S : St} {p q : BS} (h : (opN S p q).1 ≠ 0) : (opN S p q).2 = S := by
  unfold opN at *
  split
  · rfl
  · split
    · rfl
    · split
      · rfl
      · split
        · rfl
        · simp_all
theorem opA_err {room : Int} {S : St} {p s : BS} (h : (opA room S p s).1 ≠ 0) : (opA room S p s).2 = S := by
  unfold opA at *
  split
  · simp_all
  · rfl
theorem opN_stat {room : Int} {n : Nat} {S : St} (hg : Good room n S) {p q : BS} (h : (opN S p q).1 = 0) : (opStat S p).2.2 = 0 ∧ opStat (opN S p q).2 q = opStat S p := by
  have hs := hg.files.srt
  cases hl : look S.now p with
  | none =>
    have e : opN S p q = (4, S) := by unfold opN; rw [hl]; rfl
    rw [e] at h; exact absurd h (by simp)
  | some v =>
    have hst : (opStat S p).2.2 = 0 := by unfold opStat; rw [hl]
    refine ⟨hst, ?_⟩
    cases hp : pathB q with
    | false =>
      have e : opN S p q = (1, S) := by unfold opN; rw [hl, hp]; rfl
      rw [e] at h; exact absurd h (by simp)
    | true =>
      by_cases hpq : p = q
      · have e : opN S p q = (0, S) := by unfold opN; rw [hl, hp, if_pos hpq]; rfl
        rw [e, ← hpq]
      · cases hbk : blocked (drp p S.now) q with
        | true =>
          have e : opN S p q = (5, S) := by unfold opN; rw [hl, hp, hbk, if_neg hpq]; rfl
          rw [e] at h; exact absurd h (by simp)
        | false =>
          have e : opN S p q = (0, doSt S 3 p q) := by unfold opN; rw [hl, hp, hbk, if_neg hpq]; rfl
          rw [e]
          have h2 : look (doSt S 3 p q).now q = some v := by
            rw [show (doSt S 3 p q).now = put (q, v) (drp p S.now) from after3_hitS hl]
            exact look_put_same (hs.drp p) q v
          unfold opStat
          rw [h2, hl]
theorem stat_size {S : St} (p : BS) : (opStat S p).1 = ((textOf S.now p).length : Nat) := by
  unfold opStat textOf
  cases look S.now p <;> rfl
theorem opA_stat {room : Int} {n : Nat} {S : St} (hg : Good room n S) {p s : BS} (h : (opA room S p s).1 = 0) :
    opStat (opA room S p s).2 p = ((opStat S p).1 + (s.length : Nat), S.clock + 1, 0) ∧ (opA room S p s).2.clock = S.clock + 1 := by
  have hs := hg.files.srt
  have e : opA room S p s = (0, doSt S 1 p s) := by
    unfold opA at *
    split
    · rfl
    · simp_all
  rw [e]
  refine ⟨?_, rfl⟩
  have h2 : look (doSt S 1 p s).now p = some (textOf S.now p ++ s, S.clock + 1) := by
    rw [show (doSt S 1 p s).now = put (p, textOf S.now p ++ s, S.clock + 1) S.now from after1 _ _ _ _]
    exact look_put_same hs p _
  rw [stat_size]
  unfold opStat
  rw [h2]
  simp [List.length_append]
theorem opN_clock {S : St} {p q : BS} : S.clock ≤ (opN S p q).2.clock := by
  unfold opN
  split
  · exact Int.le_refl _
  · split
    · exact Int.le_refl _
    · split
      · exact Int.le_refl _
      · split
        · exact Int.le_refl _
        · show S.clock ≤ S.clock + 1; omega

/-! ### crashes -/
theorem crash_zero {S : St} : crashL S 0 0 = S.last := by
  have hN : crashN S 0 = 0 := by unfold crashN; simp; omega
  have : crashL S 0 0 = (S.pend.take 0).foldl after S.last := by
    cases hc : S.pend[0]? with
    | none => exact crash_none hN (.inl hc)
    | some c => exact crash_none hN (.inr ⟨c, hc, fun h => absurd h.1 (by decide)⟩)
  simpa using this
theorem crash_some_kept {S : St} (i : Nat) (hi : i ≤ S.pend.length) : crashL S i 0 = (S.pend.take i).foldl after S.last := by
  have hN : crashN S i = i := by unfold crashN; omega
  cases hc : S.pend[i]? with
  | none => exact crash_none hN (.inl hc)
  | some c => exact crash_none hN (.inr ⟨c, hc, fun h => absurd h.1 (by decide)⟩)
theorem crash_every {room : Int} {n : Nat} {S : St} (hg : Good room n S) : crashL S (S.pend.length : Nat) 0 = S.now := by
  rw [crash_some_kept _ (Nat.le_refl _), List.take_length, hg.now]

def OW : BS := [111, 119, 110]
def BE : BS := [98, 101, 115, 105, 100, 101]
theorem ow_path : pathB OW = true := by decide +kernel
theorem be_ow : BE ≠ OW := by decide
theorem opW_ok {room : Int} {S : St} {p s : BS} (h : (opW room S p s).1 = 0) : opW room S p s = (0, doSt S 0 p s) := by
  unfold opW at *
  split
  · rfl
  · simp_all
theorem whole_pure {room : Int} {n : Nat} {S1 : St} (hg : Good room n S1) (old text : BS) (many part : Int) (hb : look S1.now BE = none) (h1 : (opW room S1 OW old).1 = 0) (h2 : (opW room (opS (opW room S1 OW old).2) BE text).1 = 0) :
    (opN (opW room (opS (opW room S1 OW old).2) BE text).2 BE OW).1 = 0 ∧ (opN (opW room (opS (opW room S1 OW old).2) BE text).2 BE OW).2.pend.length = 2 ∧
    (2 ≤ many → opRead (opC (opN (opW room (opS (opW room S1 OW old).2) BE text).2 BE OW).2 many part) OW = (text, 0) ∧ (opRead (opC (opN (opW room (opS (opW room S1 OW old).2) BE text).2 BE OW).2 many part) BE).2 = 4) ∧
    (¬ 2 ≤ many → opRead (opC (opN (opW room (opS (opW room S1 OW old).2) BE text).2 BE OW).2 many part) OW = (old, 0) ∧
      ((many = 1 ∨ 1 ≤ part) → (opRead (opC (opN (opW room (opS (opW room S1 OW old).2) BE text).2 BE OW).2 many part) BE).2 = 0) ∧
      (¬ (many = 1 ∨ 1 ≤ part) → (opRead (opC (opN (opW room (opS (opW room S1 OW old).2) BE text).2 BE OW).2 many part) BE).2 = 4)) := by
  obtain ⟨S2, hS2⟩ : ∃ S2, S2 = (opW room S1 OW old).2 := ⟨_, rfl⟩
  have hg2 : Good room (n + 1) S2 := by rw [hS2]; exact hg.opW _ _
  have e2 : S2 = doSt S1 0 OW old := by rw [hS2, opW_ok h1]
  obtain ⟨S3, hS3⟩ : ∃ S3, S3 = opS S2 := ⟨_, rfl⟩
  have hg3 : Good room (n + 1) S3 := by rw [hS3]; exact hg2.opS
  obtain ⟨S4, hS4⟩ : ∃ S4, S4 = (opW room S3 BE text).2 := ⟨_, rfl⟩
  have hg4 : Good room (n + 1 + 1) S4 := by rw [hS4]; exact hg3.opW _ _
  rw [← hS2, ← hS3] at h2
  rw [← hS2, ← hS3, ← hS4]
  have e4 : S4 = doSt S3 0 BE text := by rw [hS4, opW_ok h2]
  have hs1 := hg.files.srt
  obtain ⟨L, hL⟩ : ∃ L, L = S2.now := ⟨_, rfl⟩
  have hLp : L = put (OW, old, S1.clock + 1) S1.now := by rw [hL, e2]; exact after0 _ _ _ _
  have hsL : Srt L := by rw [hLp]; exact hs1.put _
  have hLo : look L OW = some (old, S1.clock + 1) := by rw [hLp]; exact look_put_same hs1 _ _
  have hLb : look L BE = none := by rw [hLp, look_put_other hs1 be_ow]; exact hb
  have n3 : S3.now = L := by rw [hS3, hL]; rfl
  have l3 : S3.last = L := by rw [hS3, hL]; rfl
  have p3 : S3.pend = [] := by rw [hS3]; rfl
  have n4 : S4.now = put (BE, text, S3.clock + 1) L := by rw [e4, ← n3]; exact after0 _ _ _ _
  have hs4 : Srt S4.now := by rw [n4]; exact hsL.put _
  have hb4 : look S4.now BE = some (text, S3.clock + 1) := by rw [n4]; exact look_put_same hsL _ _
  have ho4 : look S4.now OW = some (old, S1.clock + 1) := by rw [n4, look_put_other hsL (Ne.symm be_ow)]; exact hLo
  have hbk : blocked (drp BE S4.now) OW = false := blk_of fun y hy => way_sym (hg4.files.ways (OW, _) (look_mem ho4)) y (mem_drp.1 hy).1
  have eN : opN S4 BE OW = (0, doSt S4 3 BE OW) := by unfold opN; rw [hb4, ow_path, hbk, if_neg be_ow]; rfl
  rw [eN]
  obtain ⟨S5, hS5⟩ : ∃ S5, S5 = doSt S4 3 BE OW := ⟨_, rfl⟩
  have p5 : S5.pend = [(0, BE, text, S3.clock + 1), (3, BE, OW, S4.clock + 1)] := by
    rw [hS5]; show S4.pend ++ [_] = _
    rw [e4]; show (S3.pend ++ [_]) ++ [_] = _
    rw [p3]; rfl
  have l5 : S5.last = L := by rw [hS5]; show S4.last = _; rw [e4]; exact l3
  rw [← hS5]
  have read_of : ∀ (m p : Int) (q : BS), opRead (opC S5 m p) q = match look (crashL S5 m p) q with | none => ([], 4) | some v => (v.1, 0) := fun m p q => rfl
  have hlen : S5.pend.length = 2 := by rw [p5]; rfl
  have f1 : (S5.pend.take 1).foldl after S5.last = S4.now := by rw [p5, l5, n4]; exact after0 _ _ _ _
  have f2 : (S5.pend.take 2).foldl after S5.last = put (OW, text, S3.clock + 1) (drp BE S4.now) := by
    have : (S5.pend.take 2).foldl after S5.last = after S4.now (3, BE, OW, S4.clock + 1) := by rw [← f1, p5]; rfl
    rw [this]; exact after3_hitS hb4
  refine ⟨rfl, hlen, fun hm => ?_, fun hm => ?_⟩
  · have hN : crashN S5 many = 2 := by unfold crashN; rw [hlen]; omega
    have hc : crashL S5 many part = put (OW, text, S3.clock + 1) (drp BE S4.now) := by
      rw [← f2]; exact crash_none hN (.inl (by rw [p5]; rfl))
    rw [read_of, read_of, hc, look_put_same (hs4.drp BE), look_put_other (hs4.drp BE) be_ow, look_drp_same]
    exact ⟨rfl, rfl⟩
  · by_cases h1 : many = 1
    · have hN : crashN S5 many = 1 := by unfold crashN; rw [hlen]; omega
      have hc : crashL S5 many part = S4.now := by
        rw [← f1]; exact crash_none hN (.inr ⟨_, by rw [p5]; rfl, fun h => absurd h.2 (show ¬ (3 : Nat) ≤ 1 by decide)⟩)
      rw [read_of, read_of, hc, ho4, hb4]
      exact ⟨rfl, fun _ => rfl, fun h => absurd (.inl h1) h⟩
    · have hN : crashN S5 many = 0 := by unfold crashN; rw [hlen]; omega
      by_cases hp : 1 ≤ part
      · have hc : crashL S5 many part = put (BE, text.take part.toNat, S3.clock + 1) L := by
          rw [crash_torn hN (by rw [p5]; rfl) hp (show (0 : Nat) ≤ 1 by decide)]
          show after (([] : List Ch).foldl after S5.last) (0, BE, text.take part.toNat, S3.clock + 1) = _
          rw [after0]
          show put _ S5.last = _
          rw [l5]
        rw [read_of, read_of, hc, look_put_same hsL, look_put_other hsL (Ne.symm be_ow), hLo]
        exact ⟨rfl, fun _ => rfl, fun h => absurd (.inr hp) h⟩
      · have hc : crashL S5 many part = L := by
          rw [crash_none hN (.inr ⟨_, by rw [p5]; rfl, fun h => hp h.1⟩)]
          show S5.last = _
          exact l5
        rw [read_of, read_of, hc, hLo, hLb]
        exact ⟨rfl, fun h => absurd h (by omega), fun _ => rfl⟩


end Go.Proofs.YtchnbnmajagpjaaGreatDoor
