/-
  Rows of chapter 9's nodes of the call's own, each node with its recipe, and what is open. No condition.
-/
import Derived.Test.YtldddecaeloohaaDoorPW
import Derived.Test.YtldddecaeloohaaDoorPL
namespace Go.Proofs.YtldddecaeloohaaDoor
open Go.RowKit Go.Shelf

/-- A node, and the slice of its recipe. -/
abbrev NV := Nd × Value
abbrev encN (x : NV) : List Value := [.int .i64 x.1.kind, .int .i64 x.1.no, .string (txt x.1.op), .string (txt x.1.name), .string (txt x.1.text), .string (txt x.1.targets), .string (txt x.1.pattern), .string (txt x.1.inputs), .string (txt x.1.order), x.2]
abbrev encZ (n : Int) : List Value := [.int .i64 n]
def openL (op : List Bool) : List Int := op.reverse.map fun b => if b then 1 else 0
def recO (x : NV) : Own := oRow 9 1 encS x.2 x.1.recipe
/-- The nodes, what is open, and the recipes, apart. -/
def PSt (E : TypeId) (w0 : World) (ov sv : Value) (nds : List NV) (op : List Bool) (Ls : List Own) (w : World) : Prop :=
  In w0 (oRow E 10 encN ov nds :: oRow 3 1 encZ sv (openL op) :: (nds.map recO ++ Ls)) w ∧ ∀ x ∈ nds, ∃ o n c, x.2 = .slice o n c
theorem rowInts : RowT 66 3 1 :=
  rowT_of (.int .i64 0) 8 Tryd.underlying66 (by kernel_rfl) (by decide) rfl (by decide)
section
variable {E : TypeId} {w0 w w' : World} {ov sv : Value} {nds : List NV} {op : List Bool} {Ls : List Own}
theorem PSt.start (h : Below w0.heap.size w0 w) : PSt E w0 (.slice none 0 0) (.slice none 0 0) [] [] [] w :=
  ⟨((In.nil h).rowNil 3 1 encZ).rowNil E 10 encN, by simp⟩
theorem PSt.back (h : PSt E w0 ov sv nds op Ls w) : Below w0.heap.size w0 w := h.1.back
theorem PSt.below (h : PSt E w0 ov sv nds op Ls w) (hb : Below w.heap.size w w') : PSt E w0 ov sv nds op Ls w' := ⟨h.1.below hb, h.2⟩
theorem open_len (op : List Bool) : (openL op).length = op.length := by simp [openL]
theorem open_cons (b : Bool) (op : List Bool) : openL (b :: op) = openL op ++ [if b then 1 else 0] := by simp [openL]
theorem flat_one : ∀ l : List Int, (l.flatMap encZ).length = l.length
  | [] => rfl
  | _ :: r => by rw [List.flatMap_cons, List.length_append, flat_one r]; simp; omega
theorem flat_ten : ∀ l : List NV, (l.flatMap encN).length = l.length * 10
  | [] => rfl
  | _ :: r => by rw [List.flatMap_cons, List.length_append, flat_ten r]; simp; omega
/-- The nodes' slice, and its cells. -/
theorem PSt.nodes (h : PSt E w0 ov sv nds op Ls w) : ∃ o c, ov = .slice o nds.length c ∧ nds.length ≤ c ∧ ∀ i x, nds[i]? = some x → ∃ g, o = some ⟨g, 0, none⟩ ∧ g < w.heap.size ∧ (∀ j, w.frozen? ⟨g, j, none⟩ = false) ∧ ∀ j, j < 10 → w.cell? ⟨g, i * 10 + j, none⟩ = (encN x)[j]? :=
  h.1.rowShape (E := E) (k := 10) (enc := encN) (v := ov) (l := nds) List.mem_cons_self (fun _ => rfl)
/-- What is open: its slice, and its cells. -/
theorem PSt.opens (h : PSt E w0 ov sv nds op Ls w) : ∃ o c, sv = .slice o op.length c ∧ op.length ≤ c ∧ ∀ b op', op = b :: op' → ∃ g, o = some ⟨g, 0, none⟩ ∧ g < w.heap.size ∧ (∀ j, w.frozen? ⟨g, j, none⟩ = false) ∧ w.cell? ⟨g, op'.length, none⟩ = some (.int .i64 (if b then 1 else 0)) := by
  obtain ⟨o, c, hv, h1, h2⟩ := h.1.rowShape (E := 3) (k := 1) (enc := encZ) (v := sv) (l := openL op) (List.mem_cons_of_mem _ List.mem_cons_self) (fun _ => rfl)
  rw [open_len] at hv h1
  refine ⟨o, c, hv, h1, fun b op' hop => ?_⟩
  obtain ⟨g, hg, hl, hf, hc⟩ := h2 op'.length (if b then 1 else 0) (by rw [hop, open_cons, List.getElem?_append_right (by rw [open_len]; exact Nat.le_refl _), open_len]; simp)
  refine ⟨g, hg, hl, hf, ?_⟩
  have := hc 0 (by omega)
  rw [Nat.mul_one, Nat.add_zero] at this
  exact this
/-- One node more. -/
theorem PSt.push {t : TypeId} (hT : RowW t E 10) (h : PSt E w0 ov sv nds op Ls w) (n : Nd) (hr : n.recipe = []) (hl : nds.length < 1073741824) (ty : TypeId) :
    ∃ o c w', (Builtin.append_ #[t, t] ty #[ov, .slice (some ⟨w.heap.size, 0, none⟩) 1 1]).run Tryd.prog (w.alloc (.cells (encN (n, .slice none 0 0)).toArray E)) = .ok (.slice o (nds.length + 1) c) w' ∧ PSt E w0 (.slice o (nds.length + 1) c) sv (nds ++ [(n, .slice none 0 0)]) op Ls w' := by
  obtain ⟨o, c, w', hrun, hI⟩ := h.1.rowPush hT (n, .slice none 0 0) rfl (by simp [Value.oneCell']) hl ty
  refine ⟨o, c, w', hrun, ?_, fun x hx => ?_⟩
  · have h2 := (hI.rowNil 9 1 encS)
    have e : recO (n, .slice none 0 0) = oRow 9 1 encS (.slice none 0 0) [] := by unfold recO; rw [hr]
    rw [List.map_append, List.map_cons, List.map_nil, e]
    exact h2.perm (by
      refine (List.perm_middle (l₁ := oRow E 10 encN (.slice o (nds.length + 1) c) (nds ++ [(n, .slice none 0 0)]) :: oRow 3 1 encZ sv (openL op) :: nds.map recO) (l₂ := Ls)).symm.trans ?_
      simp)
  · rcases List.mem_append.1 hx with hx | hx
    · exact h.2 x hx
    · rw [List.mem_singleton.1 hx]; exact ⟨none, 0, 0, rfl⟩
/-- One that opens. -/
theorem PSt.pushOpen (h : PSt E w0 ov sv nds op Ls w) (hl : op.length < 1073741824) (ty : TypeId) :
    ∃ o c w', (Builtin.append_ #[66, 66] ty #[sv, .slice (some ⟨w.heap.size, 0, none⟩) 1 1]).run Tryd.prog (w.alloc (.cells #[.int .i64 0] 3)) = .ok (.slice o (op.length + 1) c) w' ∧ PSt E w0 ov (.slice o (op.length + 1) c) nds (false :: op) Ls w' := by
  obtain ⟨o, c, w', hrun, hI⟩ := h.1.swap.rowPush rowInts.wide (0 : Int) rfl (by simp [Value.oneCell']) (by rw [open_len]; exact hl) ty
  rw [open_len] at hrun hI
  refine ⟨o, c, w', hrun, ?_, h.2⟩
  rw [open_cons]
  exact hI.swap
/-- One that is closed. -/
theorem PSt.popOpen {o : Option Addr} {c : Nat} {b : Bool} (h : PSt E w0 ov (.slice o (op.length + 1) c) nds (b :: op) Ls w) : PSt E w0 ov (.slice o op.length c) nds op Ls w := by
  have h1 := h.1
  rw [open_cons] at h1
  exact ⟨(In.rowShrink (enc := encZ) (k := 1) (fun _ => rfl) h1.swap).1.swap, h.2⟩
/-- One that had an Else. -/
theorem PSt.setOpen {g c : Nat} (h : PSt E w0 ov (.slice (some ⟨g, 0, none⟩) (op.length + 1) c) nds (false :: op) Ls w) : PSt E w0 ov (.slice (some ⟨g, 0, none⟩) (op.length + 1) c) nds (true :: op) Ls (w.setCell ⟨g, op.length, none⟩ (.int .i64 1)) := by
  have h1 := h.1
  rw [open_cons] at h1
  refine ⟨?_, h.2⟩
  rw [open_cons]
  have e : ∀ b : Bool, (openL op ++ [if b then (1 : Int) else 0]).flatMap encZ = (openL op).flatMap encZ ++ encZ (if b then 1 else 0) := fun b => by rw [List.flatMap_append]; simp
  have hlen : ((openL op).flatMap encZ).length = op.length := by rw [flat_one, open_len]
  have h2 := h1.swap
  unfold oRow at h2
  rw [e, List.length_append, open_len] at h2
  have h3 := In.flatSet (p := op.length) (u := .int .i64 1) h2 (by rw [List.length_append, hlen]; simp)
  rw [List.set_append_right _ _ (by rw [hlen]; exact Nat.le_refl _), hlen, Nat.sub_self] at h3
  refine In.swap ?_
  unfold oRow
  rw [e, List.length_append, open_len]
  exact h3
/-- The last node, in a box, and a copy of its recipe. -/
theorem PSt.tabCopy {n : Nd} {rv : Value} (h : PSt E w0 ov sv (nds ++ [(n, rv)]) op Ls w) (hl : n.recipe.length < 1073741824) (ty : TypeId) :
    ∃ o m c w', (Builtin.append_ #[41, 41] ty #[.slice (some ⟨w.heap.size + 1, 0, none⟩) 0 0, rv]).run Tryd.prog ((w.alloc (.cells (encN (n, rv)).toArray E)).alloc (.cells #[] 9)) = .ok (.slice o m c) w' ∧
      In w0 (oRow 9 1 encS (.slice o m c) n.recipe :: oCells w.heap.size (encN (n, rv)) E :: oRow E 10 encN ov (nds ++ [(n, rv)]) :: oRow 3 1 encZ sv (openL op) :: ((nds ++ [(n, rv)]).map recO ++ Ls)) w' := by
  have h1 := h.1.alloc (encN (n, rv)) E
  have hs : (w.alloc (.cells (encN (n, rv)).toArray E)).heap.size = w.heap.size + 1 := by simp
  have h2 : In w0 (oRow 9 1 encS (.slice (some ⟨w.heap.size + 1, 0, none⟩) 0 0) [] :: oCells w.heap.size (encN (n, rv)) E :: oRow E 10 encN ov (nds ++ [(n, rv)]) :: oRow 3 1 encZ sv (openL op) :: ((nds ++ [(n, rv)]).map recO ++ Ls)) ((w.alloc (.cells (encN (n, rv)).toArray E)).alloc (.cells #[] 9)) := by
    refine In.add (X := fun m => m = w.heap.size + 1) h1 ((Below.refl _ _).alloc (Nat.le_refl _) _) ⟨⟨rfl, .inr ⟨w.heap.size + 1, 0, #[], rfl, Nat.zero_le _, ?_, Nat.le_refl _, by simp [maxLen], rfl, rfl⟩⟩, fun g hg => ?_, fun m hm => by simp; omega⟩ (fun m hm => by rw [hs]; omega)
    · have := World.alloc_heap_new (w.alloc (.cells (encN (n, rv)).toArray E)) (.cells #[] 9)
      rwa [hs] at this
    · simp [Value.ownBlock] at hg; exact hg.symm
  obtain ⟨o, m, c, w', hrun, hI⟩ := In.rowAppend (t := 41) (u := rv) (ys := n.recipe) rowStrings.wide h2 (by
    refine List.mem_cons_of_mem _ (List.mem_cons_of_mem _ (List.mem_cons_of_mem _ ?_))
    rw [List.map_append]
    exact List.mem_append_left _ (List.mem_append_right _ (by simp [recO]))) (fun _ => rfl) (fun _ c hc => by simp at hc; rw [hc]; rfl) (by simpa using hl) ty
  rw [List.nil_append] at hI
  exact ⟨o, m, c, w', hrun, hI⟩
/-- The node back in its place, its recipe longer. -/
theorem PSt.tabDone {n : Nd} {rv v2 : Value} {rs : List BS} {cs : List Value} {g c lb : Nat}
    (h : In w0 (oRow 9 1 encS v2 rs :: oCells lb cs E :: oRow E 10 encN (.slice (some ⟨g, 0, none⟩) (nds.length + 1) c) (nds ++ [(n, rv)]) :: oRow 3 1 encZ sv (openL op) :: ((nds ++ [(n, rv)]).map recO ++ Ls)) w)
    (hs : ∀ x ∈ nds, ∃ o n c, x.2 = .slice o n c) (hv : ∃ o n c, v2 = .slice o n c) :
    PSt E w0 (.slice (some ⟨g, 0, none⟩) (nds.length + 1) c) sv (nds ++ [({ n with recipe := rs }, v2)]) op Ls (((((((((((w.setCell ⟨lb, 9, none⟩ v2).setCell ⟨g, nds.length * 10, none⟩ (.int .i64 n.kind)).setCell ⟨g, nds.length * 10 + 1, none⟩ (.int .i64 n.no)).setCell ⟨g, nds.length * 10 + 2, none⟩ (.string (txt n.op))).setCell ⟨g, nds.length * 10 + 3, none⟩ (.string (txt n.name))).setCell ⟨g, nds.length * 10 + 4, none⟩ (.string (txt n.text))).setCell ⟨g, nds.length * 10 + 5, none⟩ (.string (txt n.targets))).setCell ⟨g, nds.length * 10 + 6, none⟩ (.string (txt n.pattern))).setCell ⟨g, nds.length * 10 + 7, none⟩ (.string (txt n.inputs))).setCell ⟨g, nds.length * 10 + 8, none⟩ (.string (txt n.order))).setCell ⟨g, nds.length * 10 + 9, none⟩ (v2)) := by
  have h1 := (h.swap.set 9 v2).tail.swap
  unfold oRow at h1
  have hA : (nds.flatMap encN).length = nds.length * 10 := flat_ten nds
  have e : ∀ x : NV, (nds ++ [x]).flatMap encN = nds.flatMap encN ++ encN x := fun x => by rw [List.flatMap_append]; simp
  rw [e, List.length_append] at h1
  have k0 := h1
  have k1 := In.flatSet (p := nds.length * 10 + 0) (u := .int .i64 n.kind) k0 (by rw [List.length_append, hA]; simp)
  rw [set_at hA] at k1
  have k2 := In.flatSet (p := nds.length * 10 + 1) (u := .int .i64 n.no) k1 (by rw [List.length_append, hA]; simp)
  rw [set_at hA] at k2
  have k3 := In.flatSet (p := nds.length * 10 + 2) (u := .string (txt n.op)) k2 (by rw [List.length_append, hA]; simp)
  rw [set_at hA] at k3
  have k4 := In.flatSet (p := nds.length * 10 + 3) (u := .string (txt n.name)) k3 (by rw [List.length_append, hA]; simp)
  rw [set_at hA] at k4
  have k5 := In.flatSet (p := nds.length * 10 + 4) (u := .string (txt n.text)) k4 (by rw [List.length_append, hA]; simp)
  rw [set_at hA] at k5
  have k6 := In.flatSet (p := nds.length * 10 + 5) (u := .string (txt n.targets)) k5 (by rw [List.length_append, hA]; simp)
  rw [set_at hA] at k6
  have k7 := In.flatSet (p := nds.length * 10 + 6) (u := .string (txt n.pattern)) k6 (by rw [List.length_append, hA]; simp)
  rw [set_at hA] at k7
  have k8 := In.flatSet (p := nds.length * 10 + 7) (u := .string (txt n.inputs)) k7 (by rw [List.length_append, hA]; simp)
  rw [set_at hA] at k8
  have k9 := In.flatSet (p := nds.length * 10 + 8) (u := .string (txt n.order)) k8 (by rw [List.length_append, hA]; simp)
  rw [set_at hA] at k9
  have k10 := In.flatSet (p := nds.length * 10 + 9) (u := v2) k9 (by rw [List.length_append, hA]; simp)
  rw [set_at hA] at k10
  refine ⟨?_, fun x hx => ?_⟩
  · have k11 : In w0 (oRow E 10 encN (.slice (some ⟨g, 0, none⟩) (nds.length + 1) c) (nds ++ [({ n with recipe := rs }, v2)]) :: recO ({ n with recipe := rs }, v2) :: oRow 3 1 encZ sv (openL op) :: ((nds ++ [(n, rv)]).map recO ++ Ls)) (((((((((((w.setCell ⟨lb, 9, none⟩ v2).setCell ⟨g, nds.length * 10, none⟩ (.int .i64 n.kind)).setCell ⟨g, nds.length * 10 + 1, none⟩ (.int .i64 n.no)).setCell ⟨g, nds.length * 10 + 2, none⟩ (.string (txt n.op))).setCell ⟨g, nds.length * 10 + 3, none⟩ (.string (txt n.name))).setCell ⟨g, nds.length * 10 + 4, none⟩ (.string (txt n.text))).setCell ⟨g, nds.length * 10 + 5, none⟩ (.string (txt n.targets))).setCell ⟨g, nds.length * 10 + 6, none⟩ (.string (txt n.pattern))).setCell ⟨g, nds.length * 10 + 7, none⟩ (.string (txt n.inputs))).setCell ⟨g, nds.length * 10 + 8, none⟩ (.string (txt n.order))).setCell ⟨g, nds.length * 10 + 9, none⟩ (v2)) := by
      unfold oRow
      rw [e, List.length_append]
      exact k10
    have k12 := k11.perm (l' := recO (n, rv) :: oRow E 10 encN (.slice (some ⟨g, 0, none⟩) (nds.length + 1) c) (nds ++ [({ n with recipe := rs }, v2)]) :: oRow 3 1 encZ sv (openL op) :: ((nds ++ [({ n with recipe := rs }, v2)]).map recO ++ Ls)) (by
      have e1 : oRow E 10 encN (.slice (some ⟨g, 0, none⟩) (nds.length + 1) c) (nds ++ [({ n with recipe := rs }, v2)]) :: recO ({ n with recipe := rs }, v2) :: oRow 3 1 encZ sv (openL op) :: ((nds ++ [(n, rv)]).map recO ++ Ls) =
          (oRow E 10 encN (.slice (some ⟨g, 0, none⟩) (nds.length + 1) c) (nds ++ [({ n with recipe := rs }, v2)]) :: recO ({ n with recipe := rs }, v2) :: oRow 3 1 encZ sv (openL op) :: nds.map recO) ++ recO (n, rv) :: Ls := by simp
      rw [e1]
      refine List.perm_middle.trans (List.Perm.cons _ (List.Perm.cons _ ?_))
      have e2 : oRow 3 1 encZ sv (openL op) :: ((nds ++ [({ n with recipe := rs }, v2)]).map recO ++ Ls) = (oRow 3 1 encZ sv (openL op) :: nds.map recO) ++ recO ({ n with recipe := rs }, v2) :: Ls := by simp
      rw [e2]
      exact List.perm_middle.symm)
    exact k12.tail
  · rcases List.mem_append.1 hx with hx | hx
    · exact hs x hx
    · rw [List.mem_singleton.1 hx]; exact hv
/-- A box more, held by the call. -/
theorem PSt.hold (h : PSt E w0 ov sv nds op [] w) (cs : List Value) (t : TypeId) : PSt E w0 ov sv nds op [oCells w.heap.size cs t] (w.alloc (.cells cs.toArray t)) := by
  refine ⟨(h.1.alloc cs t).perm ?_, h.2⟩
  rw [List.append_nil]
  have hp := (List.perm_middle (a := oCells w.heap.size cs t) (l₁ := oRow E 10 encN ov nds :: oRow 3 1 encZ sv (openL op) :: nds.map recO) (l₂ := [])).symm
  rw [List.append_nil] at hp
  exact hp
theorem PSt.held {K : Nat} {cs : List Value} {t : TypeId} (h : PSt E w0 ov sv nds op [oCells K cs t] w) : w.heap[K]? = some (.cells cs.toArray t (0, 0)) :=
  h.1.cells (List.mem_cons_of_mem _ (List.mem_cons_of_mem _ (List.mem_append_right _ (by simp))))
theorem PSt.free (h : PSt E w0 ov sv nds op Ls w) : PSt E w0 ov sv nds op [] w := by
  refine ⟨?_, h.2⟩
  rw [List.append_nil]
  have h1 := h.1.perm (l' := Ls ++ (oRow E 10 encN ov nds :: oRow 3 1 encZ sv (openL op) :: nds.map recO)) (List.perm_append_comm (l₁ := oRow E 10 encN ov nds :: oRow 3 1 encZ sv (openL op) :: nds.map recO))
  exact h1.drop
end
end Go.Proofs.YtldddecaeloohaaDoor
