/-
  The statements' own pick; what an act leaves; the program's tree and the document's, side by side. No condition but sizes.
-/
import Derived.Test.YtginlknlkbhgaaaFRef8
namespace Go.Proofs.Ytginlknlkbhgaaa
open Go.RowKit Go.Shelf Go.Maps

def pickZ (c : Int) (n : Nat) : Nat := (if c < 0 then (-(c + 1)).toNat else c.toNat) % n

set_option maxRecDepth 100000 in
set_option maxHeartbeats 1000000 in
theorem pick_any (c : Int) (h0 : -9223372036854775808 ≤ c ∧ c ≤ 9223372036854775807) (n : Nat) (hn : 0 < n) (hn2 : n < 4611686018427387904) (w : World) :
    Calls Try.prog 25 #[.int .i64 c, .int .i64 n] w fun e w' => e = .returned (.int .i64 (pickZ c n : Nat)) ∧ w = w' := by
  by_cases hc : c < 0
  · obtain ⟨m, hm⟩ : ∃ m : Nat, -(c + 1) = (m : Int) := ⟨(-(c + 1)).toNat, by omega⟩
    have hp : pickZ c n = m % n := by unfold pickZ; rw [if_pos hc, hm]; rfl
    rw [hp]
    have hn1 : ¬ (n : Int) = 0 := by omega
    have hn3 : n ≠ 0 := by omega
    have hm2 : (m : Int) ≤ 9223372036854775807 := by omega
    have hq : (m : Int).tmod (n : Int) = ((m % n : Nat) : Int) := by rw [Int.tmod_eq_emod_of_nonneg (by omega)]; rfl
    go_enter Try.func25, Try.ntmps25
    go_wp2
    go_ret
    exact ⟨rfl, rfl⟩
  · obtain ⟨m, rfl⟩ : ∃ m : Nat, c = (m : Int) := ⟨c.toNat, by omega⟩
    have hp : pickZ (m : Int) n = m % n := by unfold pickZ; rw [if_neg hc]; rfl
    rw [hp]
    have hn1 : ¬ (n : Int) = 0 := by omega
    have hn3 : n ≠ 0 := by omega
    have hq : (m : Int).tmod (n : Int) = ((m % n : Nat) : Int) := by rw [Int.tmod_eq_emod_of_nonneg (by omega)]; rfl
    go_enter Try.func25, Try.ntmps25
    go_wp2
    go_ret
    exact ⟨rfl, rfl⟩

/-! ### acts -/
structure ActV where
  op : Int
  n : Int
  m : Int
  path : ByteArray
  text : ByteArray
def actCells (a : ActV) : List Value := [.int .i64 a.op, .int .i64 a.n, .int .i64 a.m, .string a.path, .string a.text]
/-- An act that lies in memory. -/
structure ActW (a : ActV) : Prop where
  op : -9223372036854775808 ≤ a.op ∧ a.op ≤ 9223372036854775807
  n : -9223372036854775808 ≤ a.n ∧ a.n ≤ 9223372036854775807
  m : -9223372036854775808 ≤ a.m ∧ a.m ≤ 9223372036854775807
  path : a.path.size ≤ maxLen
  text : a.text.size ≤ maxLen
/-- .. that can be gone through. -/
structure ActOk (a : ActV) : Prop extends ActW a where
  path1 : a.path.size ≤ 150
  text1 : a.text.size ≤ 300
def ActsO (W : World) (B : Nat) (v : Value) (al : List ActV) : Prop :=
  ∃ o c, v = .slice o al.length c ∧ ∀ j x, al[j]? = some x → ∃ b f, o = some ⟨b, f, none⟩ ∧ b < B ∧ al.length ≤ c ∧ ∀ i, i < 5 → W.cell? ⟨b, f + j * 5 + i, none⟩ = (actCells x)[i]?
theorem ActsO.below {W W' : World} {B B' : Nat} {v : Value} {al : List ActV} (h : ActsO W B v al) (hb : Below B W W') (hB : B ≤ B') : ActsO W' B' v al := by
  obtain ⟨o, c, hv, hx⟩ := h
  refine ⟨o, c, hv, fun j x hj => ?_⟩
  obtain ⟨b, f, h1, h2, h3, h4⟩ := hx j x hj
  refine ⟨b, f, h1, by omega, h3, fun i hi => ?_⟩
  have h5 := h4 i hi
  obtain ⟨u, hu⟩ : ∃ u, (actCells x)[i]? = some u := ⟨_, List.getElem?_eq_getElem (by simpa [actCells] using hi)⟩
  rw [hu] at h5 ⊢
  exact (hb.cell (p := ⟨b, f + j * 5 + i, none⟩) h2).trans h5
def ActV.k (a : ActV) : Nat := pickZ a.op 8
theorem ActV.k8 (a : ActV) : a.k < 8 := Nat.mod_lt _ (by omega)
def actS (room : Int) (S : St) (a : ActV) : St :=
  if a.k ≤ 1 then (opW room S a.path.data.toList a.text.data.toList).2
  else if a.k ≤ 3 then (opA room S a.path.data.toList a.text.data.toList).2
  else if a.k = 4 then (opR S a.path.data.toList).2
  else if a.k = 5 then (opN S a.path.data.toList a.text.data.toList).2
  else if a.k = 6 then opS S
  else opC S a.n a.m
theorem Good.act {room : Int} {n : Nat} {S : St} (h : Good room n S) (a : ActV) : Good room (n + 1) (actS room S a) := by
  unfold actS
  split
  · exact h.opW _ _
  · split
    · exact h.opA _ _
    · split
      · exact h.opR _
      · split
        · exact h.opN _ _
        · split
          · exact h.opS.more (Nat.le_succ _)
          · exact (h.opC _ _).more (Nat.le_succ _)

/-! ### both trees -/
/-- The program's tree with S, the document's with T: apart. -/
def TwoS (w0 : World) (X Y : Nat → Prop) (bt bm : Nat) (room : Int) (S T : St) (w : World) : Prop :=
  ∃ X' Y', TreeS w X' bt room S ∧ RefS w Y' bm room T ∧ Disj X' Y' ∧ Turned (fun n => X n ∨ Y n) w0 w ∧ (∀ n, X' n → X n ∨ w0.heap.size ≤ n) ∧ (∀ n, Y' n → Y n ∨ w0.heap.size ≤ n)
section
variable {w0 w w' : World} {X Y : Nat → Prop} {bt bm : Nat} {room : Int} {S S' T T' : St}
theorem TreeS.below {w w' : World} {X : Nat → Prop} {bt : Nat} {room : Int} {S : St} (h : TreeS w X bt room S) (hb : Below w.heap.size w w') : TreeS w' X bt room S := TreeR.below h hb
theorem TwoS.start (h : TreeS w X bt room S) (h' : RefS w Y bm room T) (hd : Disj X Y) : TwoS w X Y bt bm room S T w := ⟨X, Y, h, h', hd, (turned_below (Below.refl _ w)).wider fun _ h => h.elim, fun _ => .inl, fun _ => .inl⟩
theorem TwoS.doT (h : TwoS w0 X Y bt bm room S T w) {f : FuncId} {args : Array Value} {v : Value} (hc : ∀ X', TreeS w X' bt room S → Calls Try.prog f args w fun r w' => r = .returned v ∧ StepS w X' bt room S' w') :
    Calls Try.prog f args w fun r w' => r = .returned v ∧ TwoS w0 X Y bt bm room S' T w' := by
  obtain ⟨X', Y', h1, h2, h3, h4, h5, h6⟩ := h
  have hs := h4.size
  refine (hc X' h1).mono ?_
  rintro r w' ⟨rfl, X2, k1, k2, k3⟩
  refine ⟨rfl, X2, Y', k1, h2.kept k2 (fun n hn hx => h3 n hx hn), fun n hn hy => ?_, h4.andThen k2 (fun n hn => (h5 n hn).elim (fun h => .inl (.inl h)) .inr), fun n hn => ?_, h6⟩
  · rcases k3 n hn with h | h
    · exact h3 n h hy
    · have := h2.lt n hy; omega
  · rcases k3 n hn with h | h
    · exact h5 n h
    · exact .inr (by omega)
theorem TwoS.doR (h : TwoS w0 X Y bt bm room S T w) {f : FuncId} {args : Array Value} {v : Value} (hc : ∀ Y', RefS w Y' bm room T → Calls Try.prog f args w fun r w' => r = .returned v ∧ RStep w Y' bm room T' w') :
    Calls Try.prog f args w fun r w' => r = .returned v ∧ TwoS w0 X Y bt bm room S T' w' := by
  obtain ⟨X', Y', h1, h2, h3, h4, h5, h6⟩ := h
  have hs := h4.size
  refine (hc Y' h2).mono ?_
  rintro r w' ⟨rfl, Y2, k1, k2, k3⟩
  refine ⟨rfl, X', Y2, TreeR.kept h1 k2 (fun n hn hx => h3 n hn hx), k1, fun n hn hy => ?_, h4.andThen k2 (fun n hn => (h6 n hn).elim (fun h => .inl (.inr h)) .inr), h5, fun n hn => ?_⟩
  · rcases k3 n hy with h | h
    · exact h3 n hn h
    · have := TreeR.lt h1 n hn; omega
  · rcases k3 n hn with h | h
    · exact h6 n h
    · exact .inr (by omega)
theorem TwoS.below (h : TwoS w0 X Y bt bm room S T w) (hb : Below w.heap.size w w') : TwoS w0 X Y bt bm room S T w' := by
  obtain ⟨X', Y', h1, h2, h3, h4, h5, h6⟩ := h
  exact ⟨X', Y', TreeR.below h1 hb, h2.below hb, h3, h4.trans ((turned_below hb).wider fun _ h => h.elim), h5, h6⟩
theorem TwoS.behind {w1 : World} (hb : Below w1.heap.size w1 w0) (h : TwoS w0 X Y bt bm room S T w) : TwoS w1 X Y bt bm room S T w := by
  obtain ⟨X', Y', h1, h2, h3, h4, h5, h6⟩ := h
  have := hb.size
  exact ⟨X', Y', h1, h2, h3, ((turned_below hb).wider fun _ h => h.elim).trans h4, fun n hn => (h5 n hn).elim .inl (fun h => .inr (by omega)), fun n hn => (h6 n hn).elim .inl (fun h => .inr (by omega))⟩
/-- What lies outside both stays. -/
theorem TwoS.cells (h : TwoS w0 X Y bt bm room S T w) {b : Nat} {cs : Array Value} {t : TypeId} {fz : Nat × Nat} (hb : w0.heap[b]? = some (.cells cs t fz)) (hx : ¬ X b) (hy : ¬ Y b) : w.heap[b]? = some (.cells cs t fz) := by
  obtain ⟨X', Y', h1, h2, h3, h4, h5, h6⟩ := h
  exact h4.cells hb (fun h => h.elim hx hy)
end

/-- The two boxes of an act's call. -/
def boxed (w : World) (bt bm : Nat) (a : ActV) : World := (w.alloc (.cells #[.pointer (some ⟨bt, 0, none⟩), .pointer (some ⟨bm, 0, none⟩)] 28)).alloc (.cells #[.int .i64 a.op, .int .i64 a.n, .int .i64 a.m, .string a.path, .string a.text] 35)
theorem boxed_below (w : World) (bt bm : Nat) (a : ActV) : Below w.heap.size w (boxed w bt bm a) := ((Below.refl _ w).alloc (Nat.le_refl _) _).alloc (by simp) _
theorem boxed_size (w : World) (bt bm : Nat) (a : ActV) : (boxed w bt bm a).heap.size = w.heap.size + 2 := by simp [boxed]
/-- What is read of the boxes. -/
def BoxC (w W : World) (bt bm : Nat) (a : ActV) : Prop :=
  W.cell? ⟨w.heap.size, 0, none⟩ = some (.pointer (some ⟨bt, 0, none⟩)) ∧ W.cell? ⟨w.heap.size, 1, none⟩ = some (.pointer (some ⟨bm, 0, none⟩)) ∧ W.cell? ⟨w.heap.size + 1, 0, none⟩ = some (.int .i64 a.op) ∧ W.cell? ⟨w.heap.size + 1, 1, none⟩ = some (.int .i64 a.n) ∧ W.cell? ⟨w.heap.size + 1, 2, none⟩ = some (.int .i64 a.m) ∧ W.cell? ⟨w.heap.size + 1, 3, none⟩ = some (.string a.path) ∧ W.cell? ⟨w.heap.size + 1, 4, none⟩ = some (.string a.text)
theorem boxed_cells (w : World) (bt bm : Nat) (a : ActV) : (boxed w bt bm a).heap[w.heap.size]? = some (.cells #[.pointer (some ⟨bt, 0, none⟩), .pointer (some ⟨bm, 0, none⟩)] 28 (0, 0)) ∧ (boxed w bt bm a).heap[w.heap.size + 1]? = some (.cells #[.int .i64 a.op, .int .i64 a.n, .int .i64 a.m, .string a.path, .string a.text] 35 (0, 0)) := by
  constructor
  · exact (Below.heap_alloc _ _ _ (by simp)).trans (World.alloc_heap_new w _)
  · have := World.alloc_heap_new (w.alloc (.cells #[.pointer (some ⟨bt, 0, none⟩), .pointer (some ⟨bm, 0, none⟩)] 28)) (.cells #[.int .i64 a.op, .int .i64 a.n, .int .i64 a.m, .string a.path, .string a.text] 35)
    rwa [World.size_alloc] at this
theorem boxC_of {w W : World} {bt bm : Nat} {a : ActV} (h0 : W.heap[w.heap.size]? = some (.cells #[.pointer (some ⟨bt, 0, none⟩), .pointer (some ⟨bm, 0, none⟩)] 28 (0, 0))) (h1 : W.heap[w.heap.size + 1]? = some (.cells #[.int .i64 a.op, .int .i64 a.n, .int .i64 a.m, .string a.path, .string a.text] 35 (0, 0))) : BoxC w W bt bm a := by
  refine ⟨?_, ?_, ?_, ?_, ?_, ?_, ?_⟩ <;> first | (rw [Lib.cell_of_heap h0]; rfl) | (rw [Lib.cell_of_heap h1]; rfl)
theorem TwoS.box {w W : World} {X Y : Nat → Prop} {bt bm : Nat} {room : Int} {S T : St} {a : ActV} (h : TwoS (boxed w bt bm a) X Y bt bm room S T W) (hX : ∀ n, X n → n < w.heap.size) (hY : ∀ n, Y n → n < w.heap.size) : BoxC w W bt bm a := by
  obtain ⟨h0, h1⟩ := boxed_cells w bt bm a
  exact boxC_of (h.cells h0 (fun h => by have := hX _ h; omega) (fun h => by have := hY _ h; omega)) (h.cells h1 (fun h => by have := hX _ h; omega) (fun h => by have := hY _ h; omega))

/-- The sizes that each call asks for. -/
theorem Good.tx {room : Int} {n : Nat} {S : St} (h : Good room n S) (p : BS) : (textOf S.now p).length ≤ 16777216 := by
  unfold textOf
  cases hl : look S.now p with
  | none => simp
  | some v => exact h.files.texts _ (look_mem hl)

end Go.Proofs.Ytginlknlkbhgaaa
