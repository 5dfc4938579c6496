/-
  A change, done to a tree: the clock, the files, what is pending.
-/
import Derived.Deep.RegionLaw
import Derived.Test.YtginlknlkbhgaaaFTree
namespace Go.Proofs.Ytginlknlkbhgaaa
open Go.RowKit Go.Shelf Go.Maps

theorem eqlSome (b : Nat) (w : World) : (binOp .eql 64 (.map (some b)) (.map none)).run Try.prog w = .ok (.bool false) w := by kernel_rfl
theorem eqlNil (w : World) : (binOp .eql 64 (.map none) (.map none)).run Try.prog w = .ok (.bool true) w := by kernel_rfl

/-- An append whose run is known, at a step of a region that draws. -/
theorem step_append_run {P : Program} {ops : Array Oper} {o : Oper} {a : Act} {w : World} {K : Act → World → Prop} {Q : Exit → Act → World → Prop} {E : Prop} (hg : o.guard = none) (s x : Operand) (t : TypeId)
    (hop : o.op = Op.call { callee := Callee.builtin Builtin.append, args := #[s, x], argTypes := #[t, t] }) (v u v' : Value) (w' : World) (hs : a.eval s = v) (hx : a.eval x = u)
    (hrun : (Builtin.append_ #[t, t] o.type #[v, u]).run P w = .ok v' w') (hK : K (a.put o.dst v') w') : if Region.wanted o (yielded ops a.tmps) = true then Oper.wp P o a w K Q else E := by
  have hw : Region.wanted o (yielded ops a.tmps) = true := by simp [Region.wanted, hg]
  rw [if_pos hw]
  unfold Oper.wp
  simp [execOp, hop, resolve, invoke, builtin, hs, hx, hrun, Result.andThen]
  exact hK

/-- How it stands in do behind apply: the cells of the tree, the box of the change, and P. -/
def DoAt (bt xb : Nat) (room clock : Int) (b : Nat) (sm : Option Nat) (pv : Value) (cs : List Value) (P : World → Prop) (w : World) : Prop :=
  TreeC w bt room clock (some b) sm pv ∧ w.heap[xb]? = some (.cells cs.toArray 72 (0, 0)) ∧ P w

/-- The append of the change, and where it leaves all else. -/
theorem do_push (bt _xb : Nat) (room clock : Int) (b : Nat) (sm : Option Nat) (pv : Value) (c : Ch) (w : World) (hC : TreeC w bt room clock (some b) sm pv) (YP : Nat → Prop) (pend : List Ch) (hr : RowR 72 5 chCells w YP pv pend) (htp : ¬ YP bt) (hl : pend.length < 1099511627776) :
    ∃ v' w', (Builtin.append_ #[65, 65] 65 #[pv, .slice (some ⟨w.heap.size, 0, none⟩) 1 1]).run Try.prog (w.alloc (.cells (chCells c).toArray 72)).drew = .ok v' w' ∧
      RowR 72 5 chCells w' (fun n => YP n ∨ w.heap.size ≤ n) v' (pend ++ [c]) ∧ Turned YP w w' ∧ TreeC w' bt room clock (some b) sm pv := by
  have hT : Turned (fun _ => False) w (w.alloc (.cells (chCells c).toArray 72)).drew := (Turned.alloc _ w _).trans (Turned.drew _ _)
  have hr1 := hr.kept hT (fun _ _ => id)
  obtain ⟨v', w', h1, h2, h3, _⟩ := hr1.push rowCh c rfl (by simp [chCells, Value.oneCell']) w.heap.size 1 (0, 0) (World.alloc_heap_new w _) hl 65
  have hs : (w.alloc (.cells (chCells c).toArray 72)).drew.heap.size = w.heap.size + 1 := by simp
  have hTT : Turned YP w w' := (hT.wider fun _ h => h.elim).trans h3
  exact ⟨v', w', h1, h2.wider (fun n hn => hn.elim .inl (fun h => .inr (by omega))), hTT, hTT.cells hC htp⟩

set_option maxRecDepth 100000 in
set_option maxHeartbeats 4000000 in
theorem do_some (bt b : Nat) (k : Nat) (p q s : ByteArray) (room clock : Int) (sm : Option Nat) (pv : Value) (w : World) (hcl : 0 ≤ clock) (hcl2 : clock < 4611686018427387904) (ht : TreeC w bt room clock (some b) sm pv)
    (P : World → Prop) (Q : World → Prop)
    (hA : Calls Try.prog 38 #[.map (some b), .agg #[.int .i64 k, .string p, .string q, .string s, .int .i64 (clock + 1)]] (((w.setCell ⟨bt, 1, none⟩ (.int .i64 (clock + 1))).alloc (.cells #[.int .i64 k, .string p, .string q, .string s, .int .i64 (clock + 1)] 72)).drew) fun r w3 =>
      r = .returned (.tuple #[]) ∧ DoAt bt w.heap.size room (clock + 1) b sm pv [.int .i64 k, .string p, .string q, .string s, .int .i64 (clock + 1)] P w3)
    (hP : ∀ w3, DoAt bt w.heap.size room (clock + 1) b sm pv [.int .i64 k, .string p, .string q, .string s, .int .i64 (clock + 1)] P w3 →
      ∃ v' w5, (Builtin.append_ #[65, 65] 65 #[pv, .slice (some ⟨w3.heap.size, 0, none⟩) 1 1]).run Try.prog (w3.alloc (.cells #[.int .i64 k, .string p, .string q, .string s, .int .i64 (clock + 1)] 72)).drew = .ok v' w5 ∧
        (∃ o n c, v' = .slice o n c) ∧ TreeC w5 bt room (clock + 1) (some b) sm pv ∧ w5.heap[w.heap.size]? = some (.cells #[.int .i64 k, .string p, .string q, .string s, .int .i64 (clock + 1)] 72 (0, 0)) ∧ Q (w5.setCell ⟨bt, 4, none⟩ v')) :
    Calls Try.prog 37 #[.pointer (some ⟨bt, 0, none⟩), .agg #[.int .i64 k, .string p, .string q, .string s, .int .i64 0]] w fun r w' => r = .returned (.tuple #[]) ∧ Q w' := by
  obtain ⟨c0, c1, c2, c3, c4⟩ := ht.cell
  have f1 := ht.frozen 1
  have f2 := ht.frozen 2
  have f4 := ht.frozen 4
  have hlt := ht.lt
  have hq := eqlSome b
  have HA := Lib.hid hA
  have HP := Lib.hid hP
  obtain ⟨W2, hW2⟩ : ∃ W2, W2 = ((w.setCell ⟨bt, 1, none⟩ (.int .i64 (clock + 1))).alloc (.cells #[.int .i64 k, .string p, .string q, .string s, .int .i64 (clock + 1)] 72)).drew := ⟨_, rfl⟩
  have hx2 : W2.heap[w.heap.size]? = some (.cells #[.int .i64 k, .string p, .string q, .string s, .int .i64 (clock + 1)] 72 (0, 0)) := by
    rw [hW2]
    have := World.alloc_heap_new (w.setCell ⟨bt, 1, none⟩ (.int .i64 (clock + 1))) (.cells #[.int .i64 k, .string p, .string q, .string s, .int .i64 (clock + 1)] 72)
    rw [show (w.setCell ⟨bt, 1, none⟩ (.int .i64 (clock + 1))).heap.size = w.heap.size by simp] at this
    exact this
  have hC2 : TreeC W2 bt room (clock + 1) (some b) sm pv := by
    rw [hW2]
    have : (w.setCell ⟨bt, 1, none⟩ (.int .i64 (clock + 1))).heap[bt]? = some (.cells #[.int .i64 room, .int .i64 (clock + 1), .map (some b), .map sm, pv] 67 (0, 0)) := by
      unfold TreeC at ht
      simp [World.setCell, Array.getElem?_modify, ht]
    exact (Below.heap_alloc _ _ _ (by simpa using hlt)).trans this
  obtain ⟨_, _, b2, _, _⟩ := hC2.cell
  have g0 : W2.cell? ⟨w.heap.size, 0, none⟩ = some (.int .i64 k) := by rw [Lib.cell_of_heap hx2]; rfl
  have g1 : W2.cell? ⟨w.heap.size, 1, none⟩ = some (.string p) := by rw [Lib.cell_of_heap hx2]; rfl
  have g2 : W2.cell? ⟨w.heap.size, 2, none⟩ = some (.string q) := by rw [Lib.cell_of_heap hx2]; rfl
  have g3 : W2.cell? ⟨w.heap.size, 3, none⟩ = some (.string s) := by rw [Lib.cell_of_heap hx2]; rfl
  have g4 : W2.cell? ⟨w.heap.size, 4, none⟩ = some (.int .i64 (clock + 1)) := by rw [Lib.cell_of_heap hx2]; rfl
  subst hW2
  have mixed := lays169.mixed
  clear ht hA hP hC2 hx2
  go_enter Try.func37, Try.ntmps37
  go_wp2
  go_region_held3 (fun w' => w'.cell? ⟨bt, 2, none⟩ = some (.map (some b)) ∧ w'.cell? ⟨w.heap.size, 0, none⟩ = some (.int .i64 k) ∧ w'.cell? ⟨w.heap.size, 1, none⟩ = some (.string p) ∧ w'.cell? ⟨w.heap.size, 2, none⟩ = some (.string q) ∧ w'.cell? ⟨w.heap.size, 3, none⟩ = some (.string s) ∧ w'.cell? ⟨w.heap.size, 4, none⟩ = some (.int .i64 (clock + 1)))
    (first | exact ⟨by assumption, by assumption, by assumption, by assumption, by assumption, by assumption⟩)
    (first | (go_at_call 38; refine (HA.out).mono ?_; rintro r w3 ⟨rfl, HD⟩; have hC3 := HD.1; have hx3 := HD.2.1; have e2 := hC3.cell.2.2.1; have e4 := hC3.cell.2.2.2.2; have j0 : w3.cell? ⟨w.heap.size, 0, none⟩ = some (.int .i64 k) := (by rw [Lib.cell_of_heap hx3]; rfl); have j1 : w3.cell? ⟨w.heap.size, 1, none⟩ = some (.string p) := (by rw [Lib.cell_of_heap hx3]; rfl); have j2 : w3.cell? ⟨w.heap.size, 2, none⟩ = some (.string q) := (by rw [Lib.cell_of_heap hx3]; rfl); have j3 : w3.cell? ⟨w.heap.size, 3, none⟩ = some (.string s) := (by rw [Lib.cell_of_heap hx3]; rfl); have j4 : w3.cell? ⟨w.heap.size, 4, none⟩ = some (.int .i64 (clock + 1)) := (by rw [Lib.cell_of_heap hx3]; rfl)))
  obtain ⟨v', w5, hrun, ⟨vo, vn, vc, rfl⟩, hC5, hx5, hQ⟩ := HP.out w3 HD
  have HQ := Lib.hid hQ
  have m0 : w3.drew.cell? ⟨w.heap.size, 0, none⟩ = some (.int .i64 k) := j0
  have m1 : w3.drew.cell? ⟨w.heap.size, 1, none⟩ = some (.string p) := j1
  have m2 : w3.drew.cell? ⟨w.heap.size, 2, none⟩ = some (.string q) := j2
  have m3 : w3.drew.cell? ⟨w.heap.size, 3, none⟩ = some (.string s) := j3
  have m4 : w3.drew.cell? ⟨w.heap.size, 4, none⟩ = some (.int .i64 (clock + 1)) := j4
  have hx4 : (w3.alloc (.cells #[.int .i64 k, .string p, .string q, .string s, .int .i64 (clock + 1)] 72)).drew.heap[w.heap.size]? = some (.cells #[.int .i64 k, .string p, .string q, .string s, .int .i64 (clock + 1)] 72 (0, 0)) := (Below.heap_alloc _ _ _ (Array.getElem?_eq_some_iff.1 hx3).1).trans hx3
  have hC4 : TreeC (w3.alloc (.cells #[.int .i64 k, .string p, .string q, .string s, .int .i64 (clock + 1)] 72)).drew bt room (clock + 1) (some b) sm pv := (Below.heap_alloc _ _ _ hC3.lt).trans hC3
  have d4 : w3.drew.cell? ⟨bt, 4, none⟩ = some pv := e4
  have d5 := hC4.cell.2.2.2.2
  have d5' : (w3.alloc (.cells #[.int .i64 k, .string p, .string q, .string s, .int .i64 (clock + 1)] 72)).cell? ⟨bt, 4, none⟩ = some pv := d5
  have d6 := hC5.cell.2.2.2.2
  have d7 := hC5.frozen 4
  obtain ⟨W6, hW6⟩ : ∃ W6, W6 = w5.setCell ⟨bt, 4, none⟩ (.slice vo vn vc) := ⟨_, rfl⟩
  have hbx : bt ≠ w.heap.size := by omega
  have hx6 : (w5.setCell ⟨bt, 4, none⟩ (.slice vo vn vc)).heap[w.heap.size]? = some (.cells #[.int .i64 k, .string p, .string q, .string s, .int .i64 (clock + 1)] 72 (0, 0)) := (Below.heap_setCell _ _ _ _ (fun e => hbx e.symm)).trans hx5
  have n0 : (w3.alloc (.cells #[.int .i64 k, .string p, .string q, .string s, .int .i64 (clock + 1)] 72)).drew.cell? ⟨w.heap.size, 0, none⟩ = some (.int .i64 k) := by rw [Lib.cell_of_heap hx4]; rfl
  have nn0 : (w3.alloc (.cells #[.int .i64 k, .string p, .string q, .string s, .int .i64 (clock + 1)] 72)).cell? ⟨w.heap.size, 0, none⟩ = some (.int .i64 k) := n0
  have n1 : (w3.alloc (.cells #[.int .i64 k, .string p, .string q, .string s, .int .i64 (clock + 1)] 72)).drew.cell? ⟨w.heap.size, 1, none⟩ = some (.string p) := by rw [Lib.cell_of_heap hx4]; rfl
  have nn1 : (w3.alloc (.cells #[.int .i64 k, .string p, .string q, .string s, .int .i64 (clock + 1)] 72)).cell? ⟨w.heap.size, 1, none⟩ = some (.string p) := n1
  have n2 : (w3.alloc (.cells #[.int .i64 k, .string p, .string q, .string s, .int .i64 (clock + 1)] 72)).drew.cell? ⟨w.heap.size, 2, none⟩ = some (.string q) := by rw [Lib.cell_of_heap hx4]; rfl
  have nn2 : (w3.alloc (.cells #[.int .i64 k, .string p, .string q, .string s, .int .i64 (clock + 1)] 72)).cell? ⟨w.heap.size, 2, none⟩ = some (.string q) := n2
  have n3 : (w3.alloc (.cells #[.int .i64 k, .string p, .string q, .string s, .int .i64 (clock + 1)] 72)).drew.cell? ⟨w.heap.size, 3, none⟩ = some (.string s) := by rw [Lib.cell_of_heap hx4]; rfl
  have nn3 : (w3.alloc (.cells #[.int .i64 k, .string p, .string q, .string s, .int .i64 (clock + 1)] 72)).cell? ⟨w.heap.size, 3, none⟩ = some (.string s) := n3
  have n4 : (w3.alloc (.cells #[.int .i64 k, .string p, .string q, .string s, .int .i64 (clock + 1)] 72)).drew.cell? ⟨w.heap.size, 4, none⟩ = some (.int .i64 (clock + 1)) := by rw [Lib.cell_of_heap hx4]; rfl
  have nn4 : (w3.alloc (.cells #[.int .i64 k, .string p, .string q, .string s, .int .i64 (clock + 1)] 72)).cell? ⟨w.heap.size, 4, none⟩ = some (.int .i64 (clock + 1)) := n4
  have o0 : w5.cell? ⟨w.heap.size, 0, none⟩ = some (.int .i64 k) := by rw [Lib.cell_of_heap hx5]; rfl
  have o1 : w5.cell? ⟨w.heap.size, 1, none⟩ = some (.string p) := by rw [Lib.cell_of_heap hx5]; rfl
  have o2 : w5.cell? ⟨w.heap.size, 2, none⟩ = some (.string q) := by rw [Lib.cell_of_heap hx5]; rfl
  have o3 : w5.cell? ⟨w.heap.size, 3, none⟩ = some (.string s) := by rw [Lib.cell_of_heap hx5]; rfl
  have o4 : w5.cell? ⟨w.heap.size, 4, none⟩ = some (.int .i64 (clock + 1)) := by rw [Lib.cell_of_heap hx5]; rfl
  have r0 : (w5.setCell ⟨bt, 4, none⟩ (.slice vo vn vc)).cell? ⟨w.heap.size, 0, none⟩ = some (.int .i64 k) := by rw [Lib.cell_of_heap hx6]; rfl
  have r1 : (w5.setCell ⟨bt, 4, none⟩ (.slice vo vn vc)).cell? ⟨w.heap.size, 1, none⟩ = some (.string p) := by rw [Lib.cell_of_heap hx6]; rfl
  have r2 : (w5.setCell ⟨bt, 4, none⟩ (.slice vo vn vc)).cell? ⟨w.heap.size, 2, none⟩ = some (.string q) := by rw [Lib.cell_of_heap hx6]; rfl
  have r3 : (w5.setCell ⟨bt, 4, none⟩ (.slice vo vn vc)).cell? ⟨w.heap.size, 3, none⟩ = some (.string s) := by rw [Lib.cell_of_heap hx6]; rfl
  have r4 : (w5.setCell ⟨bt, 4, none⟩ (.slice vo vn vc)).cell? ⟨w.heap.size, 4, none⟩ = some (.int .i64 (clock + 1)) := by rw [Lib.cell_of_heap hx6]; rfl
  clear HA HP HD hC3 hx3 hx4 hC4 hC5 hx5 hx6 hQ hW6
  go_wp2
  go_region_law (refine step_append_run rfl (.tmp 35) (.tmp 37) 65 rfl _ _ _ w5 (by simp [Act.eval]) (by simp [Act.eval]) hrun ?_)
  all_goals (
    go_wp2
    go_end0
    exact ⟨rfl, HQ.out⟩)



set_option maxRecDepth 100000 in
set_option maxHeartbeats 4000000 in
theorem do_none (bt : Nat) (k : Nat) (p q s : ByteArray) (room clock : Int) (sm : Option Nat) (pv : Value) (w : World) (hcl : 0 ≤ clock) (hcl2 : clock < 4611686018427387904) (ht : TreeC w bt room clock none sm pv)
    (P : World → Prop) (Q : World → Prop)
    (hA : Calls Try.prog 38 #[.map (some (w.heap.size + 1)), .agg #[.int .i64 k, .string p, .string q, .string s, .int .i64 (clock + 1)]] (((((w.setCell ⟨bt, 1, none⟩ (.int .i64 (clock + 1))).setCell ⟨bt, 2, none⟩ (.map (some (w.heap.size + 1)))).alloc (.cells #[.int .i64 k, .string p, .string q, .string s, .int .i64 (clock + 1)] 72)).alloc (.map #[] 0)).drew) fun r w3 =>
      r = .returned (.tuple #[]) ∧ DoAt bt w.heap.size room (clock + 1) (w.heap.size + 1) sm pv [.int .i64 k, .string p, .string q, .string s, .int .i64 (clock + 1)] P w3)
    (hP : ∀ w3, DoAt bt w.heap.size room (clock + 1) (w.heap.size + 1) sm pv [.int .i64 k, .string p, .string q, .string s, .int .i64 (clock + 1)] P w3 →
      ∃ v' w5, (Builtin.append_ #[65, 65] 65 #[pv, .slice (some ⟨w3.heap.size, 0, none⟩) 1 1]).run Try.prog (w3.alloc (.cells #[.int .i64 k, .string p, .string q, .string s, .int .i64 (clock + 1)] 72)).drew = .ok v' w5 ∧
        (∃ o n c, v' = .slice o n c) ∧ TreeC w5 bt room (clock + 1) (some (w.heap.size + 1)) sm pv ∧ w5.heap[w.heap.size]? = some (.cells #[.int .i64 k, .string p, .string q, .string s, .int .i64 (clock + 1)] 72 (0, 0)) ∧ Q (w5.setCell ⟨bt, 4, none⟩ v')) :
    Calls Try.prog 37 #[.pointer (some ⟨bt, 0, none⟩), .agg #[.int .i64 k, .string p, .string q, .string s, .int .i64 0]] w fun r w' => r = .returned (.tuple #[]) ∧ Q w' := by
  obtain ⟨c0, c1, c2, c3, c4⟩ := ht.cell
  have f1 := ht.frozen 1
  have f2 := ht.frozen 2
  have f4 := ht.frozen 4
  have hlt := ht.lt
  have hq := eqlNil
  have hmm := @run_makeMap Try.prog
  have HA := Lib.hid hA
  have HP := Lib.hid hP
  obtain ⟨W2, hW2⟩ : ∃ W2, W2 = ((((w.setCell ⟨bt, 1, none⟩ (.int .i64 (clock + 1))).setCell ⟨bt, 2, none⟩ (.map (some (w.heap.size + 1)))).alloc (.cells #[.int .i64 k, .string p, .string q, .string s, .int .i64 (clock + 1)] 72)).alloc (.map #[] 0)).drew := ⟨_, rfl⟩
  have hz : ((w.setCell ⟨bt, 1, none⟩ (.int .i64 (clock + 1))).setCell ⟨bt, 2, none⟩ (.map (some (w.heap.size + 1)))).heap.size = w.heap.size := by simp
  have hx2 : W2.heap[w.heap.size]? = some (.cells #[.int .i64 k, .string p, .string q, .string s, .int .i64 (clock + 1)] 72 (0, 0)) := by
    rw [hW2]
    refine (Below.heap_alloc _ _ _ (by simp)).trans ?_
    have := World.alloc_heap_new ((w.setCell ⟨bt, 1, none⟩ (.int .i64 (clock + 1))).setCell ⟨bt, 2, none⟩ (.map (some (w.heap.size + 1)))) (.cells #[.int .i64 k, .string p, .string q, .string s, .int .i64 (clock + 1)] 72)
    rwa [hz] at this
  have hC2 : TreeC W2 bt room (clock + 1) (some (w.heap.size + 1)) sm pv := by
    rw [hW2]
    have : ((w.setCell ⟨bt, 1, none⟩ (.int .i64 (clock + 1))).setCell ⟨bt, 2, none⟩ (.map (some (w.heap.size + 1)))).heap[bt]? = some (.cells #[.int .i64 room, .int .i64 (clock + 1), .map (some (w.heap.size + 1)), .map sm, pv] 67 (0, 0)) := by
      unfold TreeC at ht
      simp [World.setCell, Array.getElem?_modify, ht]
    exact ((Below.heap_alloc _ _ _ (by simp; omega)).trans (Below.heap_alloc _ _ _ (by simpa using hlt))).trans this
  obtain ⟨_, _, b2, _, _⟩ := hC2.cell
  have g0 : W2.cell? ⟨w.heap.size, 0, none⟩ = some (.int .i64 k) := by rw [Lib.cell_of_heap hx2]; rfl
  have g1 : W2.cell? ⟨w.heap.size, 1, none⟩ = some (.string p) := by rw [Lib.cell_of_heap hx2]; rfl
  have g2 : W2.cell? ⟨w.heap.size, 2, none⟩ = some (.string q) := by rw [Lib.cell_of_heap hx2]; rfl
  have g3 : W2.cell? ⟨w.heap.size, 3, none⟩ = some (.string s) := by rw [Lib.cell_of_heap hx2]; rfl
  have g4 : W2.cell? ⟨w.heap.size, 4, none⟩ = some (.int .i64 (clock + 1)) := by rw [Lib.cell_of_heap hx2]; rfl
  subst hW2
  have mixed := lays169.mixed
  clear ht hA hP hC2 hx2
  go_enter Try.func37, Try.ntmps37
  go_wp2
  go_region_held3 (fun w' => w'.cell? ⟨bt, 2, none⟩ = some (.map (some (w.heap.size + 1))) ∧ w'.cell? ⟨w.heap.size, 0, none⟩ = some (.int .i64 k) ∧ w'.cell? ⟨w.heap.size, 1, none⟩ = some (.string p) ∧ w'.cell? ⟨w.heap.size, 2, none⟩ = some (.string q) ∧ w'.cell? ⟨w.heap.size, 3, none⟩ = some (.string s) ∧ w'.cell? ⟨w.heap.size, 4, none⟩ = some (.int .i64 (clock + 1)))
    (first | exact ⟨by assumption, by assumption, by assumption, by assumption, by assumption, by assumption⟩)
    (first | (go_at_call 38; refine (HA.out).mono ?_; rintro r w3 ⟨rfl, HD⟩; have hC3 := HD.1; have hx3 := HD.2.1; have e2 := hC3.cell.2.2.1; have e4 := hC3.cell.2.2.2.2; have j0 : w3.cell? ⟨w.heap.size, 0, none⟩ = some (.int .i64 k) := (by rw [Lib.cell_of_heap hx3]; rfl); have j1 : w3.cell? ⟨w.heap.size, 1, none⟩ = some (.string p) := (by rw [Lib.cell_of_heap hx3]; rfl); have j2 : w3.cell? ⟨w.heap.size, 2, none⟩ = some (.string q) := (by rw [Lib.cell_of_heap hx3]; rfl); have j3 : w3.cell? ⟨w.heap.size, 3, none⟩ = some (.string s) := (by rw [Lib.cell_of_heap hx3]; rfl); have j4 : w3.cell? ⟨w.heap.size, 4, none⟩ = some (.int .i64 (clock + 1)) := (by rw [Lib.cell_of_heap hx3]; rfl)))
  obtain ⟨v', w5, hrun, ⟨vo, vn, vc, rfl⟩, hC5, hx5, hQ⟩ := HP.out w3 HD
  have HQ := Lib.hid hQ
  have m0 : w3.drew.cell? ⟨w.heap.size, 0, none⟩ = some (.int .i64 k) := j0
  have m1 : w3.drew.cell? ⟨w.heap.size, 1, none⟩ = some (.string p) := j1
  have m2 : w3.drew.cell? ⟨w.heap.size, 2, none⟩ = some (.string q) := j2
  have m3 : w3.drew.cell? ⟨w.heap.size, 3, none⟩ = some (.string s) := j3
  have m4 : w3.drew.cell? ⟨w.heap.size, 4, none⟩ = some (.int .i64 (clock + 1)) := j4
  have hx4 : (w3.alloc (.cells #[.int .i64 k, .string p, .string q, .string s, .int .i64 (clock + 1)] 72)).drew.heap[w.heap.size]? = some (.cells #[.int .i64 k, .string p, .string q, .string s, .int .i64 (clock + 1)] 72 (0, 0)) := (Below.heap_alloc _ _ _ (Array.getElem?_eq_some_iff.1 hx3).1).trans hx3
  have hC4 : TreeC (w3.alloc (.cells #[.int .i64 k, .string p, .string q, .string s, .int .i64 (clock + 1)] 72)).drew bt room (clock + 1) (some (w.heap.size + 1)) sm pv := (Below.heap_alloc _ _ _ hC3.lt).trans hC3
  have d4 : w3.drew.cell? ⟨bt, 4, none⟩ = some pv := e4
  have d5 := hC4.cell.2.2.2.2
  have d5' : (w3.alloc (.cells #[.int .i64 k, .string p, .string q, .string s, .int .i64 (clock + 1)] 72)).cell? ⟨bt, 4, none⟩ = some pv := d5
  have d6 := hC5.cell.2.2.2.2
  have d7 := hC5.frozen 4
  obtain ⟨W6, hW6⟩ : ∃ W6, W6 = w5.setCell ⟨bt, 4, none⟩ (.slice vo vn vc) := ⟨_, rfl⟩
  have hbx : bt ≠ w.heap.size := by omega
  have hx6 : (w5.setCell ⟨bt, 4, none⟩ (.slice vo vn vc)).heap[w.heap.size]? = some (.cells #[.int .i64 k, .string p, .string q, .string s, .int .i64 (clock + 1)] 72 (0, 0)) := (Below.heap_setCell _ _ _ _ (fun e => hbx e.symm)).trans hx5
  have n0 : (w3.alloc (.cells #[.int .i64 k, .string p, .string q, .string s, .int .i64 (clock + 1)] 72)).drew.cell? ⟨w.heap.size, 0, none⟩ = some (.int .i64 k) := by rw [Lib.cell_of_heap hx4]; rfl
  have nn0 : (w3.alloc (.cells #[.int .i64 k, .string p, .string q, .string s, .int .i64 (clock + 1)] 72)).cell? ⟨w.heap.size, 0, none⟩ = some (.int .i64 k) := n0
  have n1 : (w3.alloc (.cells #[.int .i64 k, .string p, .string q, .string s, .int .i64 (clock + 1)] 72)).drew.cell? ⟨w.heap.size, 1, none⟩ = some (.string p) := by rw [Lib.cell_of_heap hx4]; rfl
  have nn1 : (w3.alloc (.cells #[.int .i64 k, .string p, .string q, .string s, .int .i64 (clock + 1)] 72)).cell? ⟨w.heap.size, 1, none⟩ = some (.string p) := n1
  have n2 : (w3.alloc (.cells #[.int .i64 k, .string p, .string q, .string s, .int .i64 (clock + 1)] 72)).drew.cell? ⟨w.heap.size, 2, none⟩ = some (.string q) := by rw [Lib.cell_of_heap hx4]; rfl
  have nn2 : (w3.alloc (.cells #[.int .i64 k, .string p, .string q, .string s, .int .i64 (clock + 1)] 72)).cell? ⟨w.heap.size, 2, none⟩ = some (.string q) := n2
  have n3 : (w3.alloc (.cells #[.int .i64 k, .string p, .string q, .string s, .int .i64 (clock + 1)] 72)).drew.cell? ⟨w.heap.size, 3, none⟩ = some (.string s) := by rw [Lib.cell_of_heap hx4]; rfl
  have nn3 : (w3.alloc (.cells #[.int .i64 k, .string p, .string q, .string s, .int .i64 (clock + 1)] 72)).cell? ⟨w.heap.size, 3, none⟩ = some (.string s) := n3
  have n4 : (w3.alloc (.cells #[.int .i64 k, .string p, .string q, .string s, .int .i64 (clock + 1)] 72)).drew.cell? ⟨w.heap.size, 4, none⟩ = some (.int .i64 (clock + 1)) := by rw [Lib.cell_of_heap hx4]; rfl
  have nn4 : (w3.alloc (.cells #[.int .i64 k, .string p, .string q, .string s, .int .i64 (clock + 1)] 72)).cell? ⟨w.heap.size, 4, none⟩ = some (.int .i64 (clock + 1)) := n4
  have o0 : w5.cell? ⟨w.heap.size, 0, none⟩ = some (.int .i64 k) := by rw [Lib.cell_of_heap hx5]; rfl
  have o1 : w5.cell? ⟨w.heap.size, 1, none⟩ = some (.string p) := by rw [Lib.cell_of_heap hx5]; rfl
  have o2 : w5.cell? ⟨w.heap.size, 2, none⟩ = some (.string q) := by rw [Lib.cell_of_heap hx5]; rfl
  have o3 : w5.cell? ⟨w.heap.size, 3, none⟩ = some (.string s) := by rw [Lib.cell_of_heap hx5]; rfl
  have o4 : w5.cell? ⟨w.heap.size, 4, none⟩ = some (.int .i64 (clock + 1)) := by rw [Lib.cell_of_heap hx5]; rfl
  have r0 : (w5.setCell ⟨bt, 4, none⟩ (.slice vo vn vc)).cell? ⟨w.heap.size, 0, none⟩ = some (.int .i64 k) := by rw [Lib.cell_of_heap hx6]; rfl
  have r1 : (w5.setCell ⟨bt, 4, none⟩ (.slice vo vn vc)).cell? ⟨w.heap.size, 1, none⟩ = some (.string p) := by rw [Lib.cell_of_heap hx6]; rfl
  have r2 : (w5.setCell ⟨bt, 4, none⟩ (.slice vo vn vc)).cell? ⟨w.heap.size, 2, none⟩ = some (.string q) := by rw [Lib.cell_of_heap hx6]; rfl
  have r3 : (w5.setCell ⟨bt, 4, none⟩ (.slice vo vn vc)).cell? ⟨w.heap.size, 3, none⟩ = some (.string s) := by rw [Lib.cell_of_heap hx6]; rfl
  have r4 : (w5.setCell ⟨bt, 4, none⟩ (.slice vo vn vc)).cell? ⟨w.heap.size, 4, none⟩ = some (.int .i64 (clock + 1)) := by rw [Lib.cell_of_heap hx6]; rfl
  clear HA HP HD hC3 hx3 hx4 hC4 hC5 hx5 hx6 hQ hW6
  go_wp2
  go_region_law (refine step_append_run rfl (.tmp 35) (.tmp 37) 65 rfl _ _ _ w5 (by simp [Act.eval]) (by simp [Act.eval]) hrun ?_)
  all_goals (
    go_wp2
    go_end0
    exact ⟨rfl, HQ.out⟩)

/-- A change, done to a tree. -/
theorem do_any (bt : Nat) (X : Nat → Prop) (k : Nat) (p q s : ByteArray) (a : BS) (room clock : Int) (now last : Fs) (pend : List Ch) (w : World) (hcl : 0 ≤ clock) (hcl2 : clock < 4611686018427387904) (h : TreeR w X bt room clock now last pend)
    (hc : chCells (k, p.data.toList, a, clock + 1) = [.int .i64 k, .string p, .string q, .string s, .int .i64 (clock + 1)]) (hf : Fits now (k, p.data.toList, a, clock + 1)) (hn : now.length < 1073741824) (hl : pend.length < 1073741824) :
    Calls Try.prog 37 #[.pointer (some ⟨bt, 0, none⟩), .agg #[.int .i64 k, .string p, .string q, .string s, .int .i64 0]] w fun r w' => r = .returned (.tuple #[]) ∧
      Stepped w X bt room (clock + 1) (after now (k, p.data.toList, a, clock + 1)) last (pend ++ [(k, p.data.toList, a, clock + 1)]) w' := by
  obtain ⟨nm, sm, pv, YN, YS, YP, LN, LS, hp, rfl, rfl⟩ := h
  obtain ⟨c, hcd⟩ : ∃ c : Ch, c = (k, p.data.toList, a, clock + 1) := ⟨_, rfl⟩
  rw [← hcd] at hc hf ⊢
  have hlt := hp.cells.lt
  have hXl := hp.lt
  -- whatever apply leaves, the append and the store behind it leave the tree
  have core : ∀ (b : Nat) (W : World) (YB : Nat → Prop) (LB : FVs), TreeC W bt room (clock + 1) (some b) sm pv → W.heap[w.heap.size]? = some (.cells #[.int .i64 k, .string p, .string q, .string s, .int .i64 (clock + 1)] 72 (0, 0)) →
      Turned (fun n => n = bt) w W → NowR W YB (some b) LB → strip LB = strip LN → (∀ n, YB n → YN n ∨ w.heap.size < n) →
      Calls Try.prog 38 #[.map (some b), .agg #[.int .i64 k, .string p, .string q, .string s, .int .i64 (clock + 1)]] W fun r w3 => r = .returned (.tuple #[]) ∧
        DoAt bt w.heap.size room (clock + 1) b sm pv [.int .i64 k, .string p, .string q, .string s, .int .i64 (clock + 1)] (fun w3 => ∃ YN' LN', NowR w3 YN' (some b) LN' ∧ strip LN' = after (strip LN) c ∧ Turned (fun n => YB n ∨ n = bt) w w3 ∧ (∀ n, YN' n → YN n ∨ w.heap.size < n) ∧ w.heap.size < w3.heap.size) w3 := by
    intro b W YB LB hC hx hT hN hs hY
    have hxl := (Array.getElem?_eq_some_iff.1 hx).1
    have hA := apply_any b YB LB c W hN (by rw [← strip_length, hs, strip_length]; rw [strip_length] at hn; exact hn) (by rw [hs]; exact hf)
    rw [hc] at hA
    refine hA.mono ?_
    rintro r w3 ⟨rfl, Y', L', h1, h2, h3, h4⟩
    have hbt : ¬ YB bt := fun hb => by
      rcases hY bt hb with h | h
      · exact hp.tn h
      · omega
    have hbx : ¬ YB w.heap.size := fun hb => by
      rcases hY _ hb with h | h
      · have := hXl _ (hp.xn _ h); omega
      · omega
    have hsz := h3.size
    exact ⟨rfl, h3.cells hC hbt, h3.cells hx hbx, Y', L', h1, by rw [h2, hs], (hT.wider fun n h => .inr h).trans (h3.wider fun n h => .inl h), fun n hn => by
      rcases h4 n hn with h | h
      · exact hY n h
      · right; omega, by omega⟩
  have fin : ∀ (b : Nat) (YB : Nat → Prop), (∀ n, YB n → YN n ∨ w.heap.size < n) → ∀ w3, DoAt bt w.heap.size room (clock + 1) b sm pv [.int .i64 k, .string p, .string q, .string s, .int .i64 (clock + 1)] (fun w3 => ∃ YN' LN', NowR w3 YN' (some b) LN' ∧ strip LN' = after (strip LN) c ∧ Turned (fun n => YB n ∨ n = bt) w w3 ∧ (∀ n, YN' n → YN n ∨ w.heap.size < n) ∧ w.heap.size < w3.heap.size) w3 →
      ∃ v' w5, (Builtin.append_ #[65, 65] 65 #[pv, .slice (some ⟨w3.heap.size, 0, none⟩) 1 1]).run Try.prog (w3.alloc (.cells #[.int .i64 k, .string p, .string q, .string s, .int .i64 (clock + 1)] 72)).drew = .ok v' w5 ∧
        (∃ o n c, v' = .slice o n c) ∧ TreeC w5 bt room (clock + 1) (some b) sm pv ∧ w5.heap[w.heap.size]? = some (.cells #[.int .i64 k, .string p, .string q, .string s, .int .i64 (clock + 1)] 72 (0, 0)) ∧
        Stepped w X bt room (clock + 1) (after (strip LN) c) (strip LS) (pend ++ [c]) (w5.setCell ⟨bt, 4, none⟩ v') := by
    rintro b YB hYB w3 ⟨hC, hx, YN', LN', hN, hs, hT, hY', hsz⟩
    have hd : ∀ n, YB n ∨ n = bt → ¬ YP n ∧ ¬ YS n := by
      rintro n (hn | rfl)
      · rcases hYB n hn with h | h
        · exact ⟨hp.np n h, hp.ns n h⟩
        · exact ⟨fun hh => by have := hXl n (hp.xp n hh); omega, fun hh => by have := hXl n (hp.xs n hh); omega⟩
      · exact ⟨hp.tp, hp.ts⟩
    have hr3 := hp.row.kept hT (fun n hn hx => (hd n hx).1 hn)
    have hS3 := hp.last.kept hT (fun n hn hx => (hd n hx).2 hn)
    obtain ⟨v', w5, h1, h2, h3, h4⟩ := do_push bt w.heap.size room (clock + 1) b sm pv c w3 hC YP pend hr3 hp.tp (by omega)
    rw [hc] at h1
    have hbx : ¬ YP w.heap.size := fun hb => by have := hXl _ (hp.xp _ hb); omega
    refine ⟨v', w5, h1, ?_, h4, h3.cells hx hbx, ?_⟩
    · rcases h2.1.2 with ⟨rfl, _⟩ | ⟨g, cap, cur, rfl, _⟩
      · exact ⟨_, _, _, rfl⟩
      · exact ⟨_, _, _, rfl⟩
    have hsz5 := h3.size
    obtain ⟨W6, hW6⟩ : ∃ W6, W6 = w5.setCell ⟨bt, 4, none⟩ v' := ⟨_, rfl⟩
    have hT6 : Turned (fun n => n = bt) w5 W6 := by rw [hW6]; exact Turned.setCell (X := fun n => n = bt) w5 ⟨bt, 4, none⟩ v' rfl
    have hC6 : TreeC W6 bt room (clock + 1) (some b) sm v' := by
      rw [hW6]
      unfold TreeC at h4
      simp [TreeC, World.setCell, Array.getElem?_modify, h4]
    have hs6 := hT6.size
    rw [← hW6]
    have hT03 : Turned X w w3 := (Turned.refl X w).andThen hT (fun n hn => by
      rcases hn with hn | rfl
      · rcases hYB n hn with h | h
        · exact .inl (hp.xn n h)
        · right; omega
      · exact .inl hp.xt)
    have hTall : Turned X w W6 := (hT03.andThen h3 (fun n hn => .inl (hp.xp n hn))).andThen hT6 (fun n hn => .inl (by rw [hn]; exact hp.xt))
    have dNP : ∀ n, YN' n → ¬ YP n := fun n hn hx => by
      rcases hY' n hn with h | h
      · exact hp.np n h hx
      · have := hXl n (hp.xp n hx); omega
    have dNb : ∀ n, YN' n → n ≠ bt := fun n hn hx => by
      rcases hY' n hn with h | h
      · exact hp.tn (hx ▸ h)
      · omega
    have hN6 := (hN.kept h3 dNP).kept hT6 dNb
    have hS6 := (hS3.kept h3 (fun n hn => hp.sp n hn)).kept hT6 (fun n hn (hx : n = bt) => hp.ts (hx ▸ hn))
    have hR6 := h2.tight.kept hT6 (fun n hn (hx : n = bt) => by
      rcases hn.1 with h | h
      · exact hp.tp (hx ▸ h)
      · omega)
    refine ⟨fun n => X n ∨ (w.heap.size ≤ n ∧ n < W6.heap.size), ⟨some b, sm, v', YN', YS, _, LN', LS, ⟨hC6, hN6, hS6, hR6, .inl hp.xt, fun n hn => ?_, fun n hn => .inl (hp.xs n hn), fun n hn => ?_, fun hn => dNb bt hn rfl, hp.ts, fun hn => ?_, fun n hn hx => ?_, fun n hn hx => ?_, fun n hn hx => ?_, fun n hn => ?_⟩, hs, rfl⟩, hTall, fun n hn => hn.elim .inl (fun h => .inr h.1)⟩
    · rcases hY' n hn with h | h
      · exact .inl (hp.xn n h)
      · exact .inr ⟨by omega, hN6.lt n hn⟩
    · rcases hn.1 with h | h
      · exact .inl (hp.xp n h)
      · exact .inr ⟨by omega, by omega⟩
    · rcases hn.1 with h | h
      · exact hp.tp h
      · omega
    · rcases hY' n hn with h | h
      · exact hp.ns n h hx
      · have := hXl n (hp.xs n hx); omega
    · rcases hx.1 with h | h
      · exact dNP n hn h
      · have := hN.lt n hn; omega
    · rcases hx.1 with h | h
      · exact hp.sp n hn h
      · have := hXl n (hp.xs n hn); omega
    · rcases hn with h | h
      · have := hXl n h; have := hTall.size; omega
      · exact h.2
  rcases hp.now.map with ⟨rfl, hLN⟩ | ⟨b, rfl, hM⟩
  · refine do_none bt k p q s room clock sm pv w hcl hcl2 hp.cells _ _ (core (w.heap.size + 1) _ (fun n => n = w.heap.size + 1) [] ?_ ?_ ?_ ?_ (by rw [hLN]) (fun n hn => .inr (by omega))) (fin (w.heap.size + 1) (fun n => n = w.heap.size + 1) (fun n hn => .inr (by omega)))
    · have : ((w.setCell ⟨bt, 1, none⟩ (.int .i64 (clock + 1))).setCell ⟨bt, 2, none⟩ (.map (some (w.heap.size + 1)))).heap[bt]? = some (.cells #[.int .i64 room, .int .i64 (clock + 1), .map (some (w.heap.size + 1)), .map sm, pv] 67 (0, 0)) := by
        have hc := hp.cells
        unfold TreeC at hc
        simp [World.setCell, Array.getElem?_modify, hc]
      exact ((Below.heap_alloc _ _ _ (by simp; omega)).trans (Below.heap_alloc _ _ _ (by simpa using hlt))).trans this
    · refine (Below.heap_alloc _ _ _ (by simp)).trans ?_
      have := World.alloc_heap_new ((w.setCell ⟨bt, 1, none⟩ (.int .i64 (clock + 1))).setCell ⟨bt, 2, none⟩ (.map (some (w.heap.size + 1)))) (.cells #[.int .i64 k, .string p, .string q, .string s, .int .i64 (clock + 1)] 72)
      rwa [show ((w.setCell ⟨bt, 1, none⟩ (.int .i64 (clock + 1))).setCell ⟨bt, 2, none⟩ (.map (some (w.heap.size + 1)))).heap.size = w.heap.size by simp] at this
    · exact ((((Turned.setCell (X := fun n => n = bt) w ⟨bt, 1, none⟩ _ rfl).trans (Turned.setCell (X := fun n => n = bt) _ ⟨bt, 2, none⟩ _ rfl)).trans (Turned.alloc _ _ _)).trans (Turned.alloc _ _ _)).trans (Turned.drew _ _)
    · have h1 := NowR.made (((w.setCell ⟨bt, 1, none⟩ (.int .i64 (clock + 1))).setCell ⟨bt, 2, none⟩ (.map (some (w.heap.size + 1)))).alloc (.cells #[.int .i64 k, .string p, .string q, .string s, .int .i64 (clock + 1)] 72))
      rw [show (((w.setCell ⟨bt, 1, none⟩ (.int .i64 (clock + 1))).setCell ⟨bt, 2, none⟩ (.map (some (w.heap.size + 1)))).alloc (.cells #[.int .i64 k, .string p, .string q, .string s, .int .i64 (clock + 1)] 72)).heap.size = w.heap.size + 1 by simp] at h1
      exact h1.kept (Turned.drew (fun _ => False) _) (fun _ _ => id)
  · have hTW : Turned (fun n => n = bt) w ((w.setCell ⟨bt, 1, none⟩ (.int .i64 (clock + 1))).alloc (.cells #[.int .i64 k, .string p, .string q, .string s, .int .i64 (clock + 1)] 72)).drew := ((Turned.setCell (X := fun n => n = bt) w ⟨bt, 1, none⟩ _ rfl).trans (Turned.alloc _ _ _)).trans (Turned.drew _ _)
    refine do_some bt b k p q s room clock sm pv w hcl hcl2 hp.cells _ _ (core b _ YN LN ?_ ?_ hTW (hp.now.kept hTW (fun n hn (hx : n = bt) => hp.tn (hx ▸ hn))) rfl (fun n hn => .inl hn)) (fin b YN (fun n hn => .inl hn))
    · have : (w.setCell ⟨bt, 1, none⟩ (.int .i64 (clock + 1))).heap[bt]? = some (.cells #[.int .i64 room, .int .i64 (clock + 1), .map (some b), .map sm, pv] 67 (0, 0)) := by
        have hc := hp.cells
        unfold TreeC at hc
        simp [World.setCell, Array.getElem?_modify, hc]
      exact (Below.heap_alloc _ _ _ (by simpa using hlt)).trans this
    · have := World.alloc_heap_new (w.setCell ⟨bt, 1, none⟩ (.int .i64 (clock + 1))) (.cells #[.int .i64 k, .string p, .string q, .string s, .int .i64 (clock + 1)] 72)
      rw [show (w.setCell ⟨bt, 1, none⟩ (.int .i64 (clock + 1))).heap.size = w.heap.size by simp] at this
      exact this

end Go.Proofs.Ytginlknlkbhgaaa
