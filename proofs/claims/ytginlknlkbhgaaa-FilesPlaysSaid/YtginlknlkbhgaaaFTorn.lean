/-
  Whether a change may be torn, and a torn one; a tree behind apply.
-/
import Derived.Test.YtginlknlkbhgaaaFClone
namespace Go.Proofs.Ytginlknlkbhgaaa
open Go.RowKit Go.Shelf Go.Maps

def tornC (c : Ch) (part : Int) : Ch := (c.kind, c.path, c.arg.take part.toNat, c.time)

set_option maxRecDepth 100000 in
set_option maxHeartbeats 1000000 in
theorem mayTear_any (k : Nat) (p q s : ByteArray) (t : Int) (hk : k ≤ 3) (w : World) :
    Calls Try.prog 39 #[.agg #[.int .i64 k, .string p, .string q, .string s, .int .i64 t]] w fun e w' => e = .returned (.bool (decide (k ≤ 1))) ∧ Below w.heap.size w w' := by
  rcases (show k = 0 ∨ k = 1 ∨ k = 2 ∨ k = 3 by omega) with rfl | rfl | rfl | rfl
  all_goals (
    clear hk
    go_enter Try.func39, Try.ntmps39
    go_wp2
    go_ret
    exact ⟨rfl, (Below.refl _ w).alloc (Nat.le_refl _) _⟩)

set_option maxRecDepth 100000 in
set_option maxHeartbeats 1000000 in
theorem torn_any (k : Nat) (p q s : ByteArray) (t : Int) (part : Int) (hp : 1 ≤ part) (hp2 : part < 9223372036854775808) (_hs : s.size < 4611686018427387904) (w : World) :
    Calls Try.prog 40 #[.agg #[.int .i64 k, .string p, .string q, .string s, .int .i64 t], .int .i64 part] w fun e w' =>
      e = .returned (.agg #[.int .i64 k, .string p, .string q, .string (txt (s.data.toList.take part.toNat)), .int .i64 t]) ∧ Below w.heap.size w w' := by
  obtain ⟨m, hm⟩ : ∃ m : Nat, m = min part.toNat s.size := ⟨_, rfl⟩
  have hmin : min part (s.size : Int) = (m : Int) := by omega
  have hms : m ≤ s.size := by omega
  have htx : s.extract 0 m = txt (s.data.toList.take part.toNat) := by
    rw [extract_txt, List.drop_zero, Nat.sub_zero, hm]
    congr 1
    rw [← size_list s, List.take_eq_take_iff]
    omega
  have hi1 : (0 : Int) ≤ (m : Int) := by omega
  have hi2 : (m : Int) ≤ (s.size : Int) := by omega
  have HX := Lib.hid htx
  clear htx hm
  go_enter Try.func40, Try.ntmps40
  go_wp2
  have hh : ((w.alloc (.cells #[.int .i64 k, .string p, .string q, .string (s.extract 0 m), .int .i64 t] 72)).alloc (.cells #[.int .i64 k, .string p, .string q, .string (s.extract 0 m), .int .i64 t] 72)).heap[w.heap.size + 1]? = some (.cells #[.int .i64 k, .string p, .string q, .string (s.extract 0 m), .int .i64 t] 72 (0, 0)) := by
    have := World.alloc_heap_new (w.alloc (.cells #[.int .i64 k, .string p, .string q, .string (s.extract 0 m), .int .i64 t] 72)) (.cells #[.int .i64 k, .string p, .string q, .string (s.extract 0 m), .int .i64 t] 72)
    rwa [World.size_alloc] at this
  have hb : Below w.heap.size w ((w.alloc (.cells #[.int .i64 k, .string p, .string q, .string (s.extract 0 m), .int .i64 t] 72)).alloc (.cells #[.int .i64 k, .string p, .string q, .string (s.extract 0 m), .int .i64 t] 72)) := ((Below.refl _ w).alloc (Nat.le_refl _) _).alloc (by simp) _
  generalize ((w.alloc (.cells #[.int .i64 k, .string p, .string q, .string (s.extract 0 m), .int .i64 t] 72)).alloc (.cells #[.int .i64 k, .string p, .string q, .string (s.extract 0 m), .int .i64 t] 72)) = W2 at hh hb ⊢
  have q0 : W2.cell? ⟨w.heap.size + 1, 0, none⟩ = some (.int .i64 k) := by rw [Lib.cell_of_heap hh]; rfl
  have q1 : W2.cell? ⟨w.heap.size + 1, 1, none⟩ = some (.string p) := by rw [Lib.cell_of_heap hh]; rfl
  have q2 : W2.cell? ⟨w.heap.size + 1, 2, none⟩ = some (.string q) := by rw [Lib.cell_of_heap hh]; rfl
  have q3 : W2.cell? ⟨w.heap.size + 1, 3, none⟩ = some (.string (s.extract 0 m)) := by rw [Lib.cell_of_heap hh]; rfl
  have q4 : W2.cell? ⟨w.heap.size + 1, 4, none⟩ = some (.int .i64 t) := by rw [Lib.cell_of_heap hh]; rfl
  rw [← HX.out]
  exact bodyPost_ret (v := .agg #[.int .i64 k, .string p, .string q, .string (s.extract 0 m), .int .i64 t]) (by simp [results, Try.results40, go_sem, q0, q1, q2, q3, q4]) rfl ⟨rfl, hb⟩

theorem Applied.tree {w w' : World} {X : Nat → Prop} {bt b : Nat} {room clock : Int} {sm : Option Nat} {pv : Value} {YN YS YP : Nat → Prop} {LN LS : FVs} {pend : List Ch} {c : Ch} (h : TreeP w X bt room clock (some b) sm pv YN YS YP LN LS pend) (hA : Applied w YN b (strip LN) c w') :
    ∃ X' YN' LN', TreeP w' X' bt room clock (some b) sm pv YN' YS YP LN' LS pend ∧ strip LN' = after (strip LN) c ∧ Turned X w w' ∧ ∀ n, X' n → X n ∨ w.heap.size ≤ n := by
  obtain ⟨Y', L', h1, h2, h3, h4⟩ := hA
  have hXl := h.lt
  have hs := h3.size
  have hd : ∀ n, YN n → ¬ YP n ∧ ¬ YS n ∧ n ≠ bt := fun n hn => ⟨h.np n hn, h.ns n hn, fun e => h.tn (e ▸ hn)⟩
  refine ⟨fun n => X n ∨ (w.heap.size ≤ n ∧ n < w'.heap.size), Y', L', ⟨h3.cells h.cells h.tn, h1, h.last.kept h3 (fun n hn hx => (hd n hx).2.1 hn), h.row.kept h3 (fun n hn hx => (hd n hx).1 hn), .inl h.xt, fun n hn => ?_, fun n hn => .inl (h.xs n hn), fun n hn => .inl (h.xp n hn), fun hn => ?_, h.ts, h.tp, fun n hn hx => ?_, fun n hn hx => ?_, h.sp, fun n hn => ?_⟩, h2, h3.wider h.xn, fun n hn => hn.elim .inl (fun h => .inr h.1)⟩
  · rcases h4 n hn with h' | h'
    · exact .inl (h.xn n h')
    · exact .inr ⟨h', h1.lt n hn⟩
  · rcases h4 bt hn with h' | h'
    · exact h.tn h'
    · have := hXl bt h.xt; omega
  · rcases h4 n hn with h' | h'
    · exact h.ns n h' hx
    · have := hXl n (h.xs n hx); omega
  · rcases h4 n hn with h' | h'
    · exact h.np n h' hx
    · have := hXl n (h.xp n hx); omega
  · rcases hn with h' | h'
    · have := hXl n h'; omega
    · exact h'.2

end Go.Proofs.Ytginlknlkbhgaaa
