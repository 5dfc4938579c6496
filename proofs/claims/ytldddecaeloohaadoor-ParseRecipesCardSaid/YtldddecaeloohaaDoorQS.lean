/-
  The program's nodes as Parse keeps them: a row, each node with its recipe, and what is open beside. No condition.
-/
import Derived.Test.YtldddecaeloohaaDoorQG
namespace Go.Proofs.YtldddecaeloohaaDoor
open Go.RowKit Go.Shelf

theorem rowNodesP : RowW 27 49 10 :=
  rowW_of (.agg #[.int .i64 0, .int .i64 0, .string ⟨#[]⟩, .string ⟨#[]⟩, .string ⟨#[]⟩, .string ⟨#[]⟩, .string ⟨#[]⟩, .string ⟨#[]⟩, .string ⟨#[]⟩, .slice none 0 0]) 152 Tryd.underlying27 (by kernel_rfl) (by decide) rfl (by decide)
/-- The nodes, their recipes, and what else is the call's own, apart. -/
def PSq (w0 : World) (ov : Value) (nds : List NV) (Ls : List Own) (w : World) : Prop :=
  In w0 (oRow 49 10 encN ov nds :: (nds.map recO ++ Ls)) w ∧ ∀ x ∈ nds, ∃ o n c, x.2 = .slice o n c
section
variable {w0 w w' : World} {ov : Value} {nds : List NV} {Ls : List Own} {op : List Bool} {dp : Option Int} {ib : Nat}
theorem PSq.back (h : PSq w0 ov nds Ls w) : Below w0.heap.size w0 w := h.1.back
theorem PSq.below (h : PSq w0 ov nds Ls w) (hb : Below w.heap.size w w') : PSq w0 ov nds Ls w' := ⟨h.1.below hb, h.2⟩
theorem PSq.nodes (h : PSq w0 ov nds Ls w) : ∃ o c, ov = .slice o nds.length c ∧ nds.length ≤ c ∧ ∀ i x, nds[i]? = some x → ∃ g, o = some ⟨g, 0, none⟩ ∧ g < w.heap.size ∧ (∀ j, w.frozen? ⟨g, j, none⟩ = false) ∧ ∀ j, j < 10 → w.cell? ⟨g, i * 10 + j, none⟩ = (encN x)[j]? :=
  h.1.rowShape (E := 49) (k := 10) (enc := encN) (v := ov) (l := nds) List.mem_cons_self (fun _ => rfl)
theorem PSq.nest (h : PSq w0 ov nds [oNest ib op dp] w) : In w0 (oNest ib op dp :: oRow 49 10 encN ov nds :: nds.map recO) w :=
  h.1.perm (List.perm_append_comm (l₁ := oRow 49 10 encN ov nds :: nds.map recO) (l₂ := [oNest ib op dp]))
theorem PSq.ofNest (h : In w0 (oNest ib op dp :: oRow 49 10 encN ov nds :: nds.map recO) w) (hs : ∀ x ∈ nds, ∃ o n c, x.2 = .slice o n c) : PSq w0 ov nds [oNest ib op dp] w :=
  ⟨h.perm (List.perm_append_comm (l₁ := oRow 49 10 encN ov nds :: nds.map recO) (l₂ := [oNest ib op dp])).symm, hs⟩
theorem PSq.nest3 {e1 e2 : Own} (h : PSq w0 ov nds [e1, e2, oNest ib op dp] w) : In w0 (oNest ib op dp :: oRow 49 10 encN ov nds :: (nds.map recO ++ [e1, e2])) w :=
  h.1.perm (by
    have e : oRow 49 10 encN ov nds :: (nds.map recO ++ [e1, e2, oNest ib op dp]) = (oRow 49 10 encN ov nds :: (nds.map recO ++ [e1, e2])) ++ [oNest ib op dp] := by simp
    rw [e]
    exact List.perm_append_comm (l₁ := oRow 49 10 encN ov nds :: (nds.map recO ++ [e1, e2])) (l₂ := [oNest ib op dp]))
theorem PSq.ofNest3 {e1 e2 : Own} (h : In w0 (oNest ib op dp :: oRow 49 10 encN ov nds :: (nds.map recO ++ [e1, e2])) w) (hs : ∀ x ∈ nds, ∃ o n c, x.2 = .slice o n c) : PSq w0 ov nds [oNest ib op dp] w :=
  PSq.ofNest ((h.perm (l' := [e1, e2] ++ (oNest ib op dp :: oRow 49 10 encN ov nds :: nds.map recO)) (List.perm_append_comm (l₁ := oNest ib op dp :: oRow 49 10 encN ov nds :: nds.map recO) (l₂ := [e1, e2]))).drop) hs
/-- A box more, held by the call; let go. -/
theorem PSq.hold (h : PSq w0 ov nds Ls w) (cs : List Value) (t : TypeId) : PSq w0 ov nds (oCells w.heap.size cs t :: Ls) (w.alloc (.cells cs.toArray t)) :=
  ⟨(h.1.alloc cs t).perm (List.perm_middle (a := oCells w.heap.size cs t) (l₁ := oRow 49 10 encN ov nds :: nds.map recO) (l₂ := Ls)).symm, h.2⟩
theorem PSq.free {e : Own} (h : PSq w0 ov nds (e :: Ls) w) : PSq w0 ov nds Ls w :=
  ⟨(h.1.perm (List.perm_middle (a := e) (l₁ := oRow 49 10 encN ov nds :: nds.map recO) (l₂ := Ls))).tail, h.2⟩
/-- One node more. -/
theorem PSq.push (h : PSq w0 ov nds Ls w) (n : Nd) (hr : n.recipe = []) (hl : nds.length < 1073741824) (ty : TypeId) :
    ∃ o c w', (Builtin.append_ #[27, 27] ty #[ov, .slice (some ⟨w.heap.size, 0, none⟩) 1 1]).run Tryd.prog (w.alloc (.cells (encN (n, .slice none 0 0)).toArray 49)) = .ok (.slice o (nds.length + 1) c) w' ∧ PSq w0 (.slice o (nds.length + 1) c) (nds ++ [(n, .slice none 0 0)]) Ls w' := by
  obtain ⟨o, c, w', hrun, hI⟩ := h.1.rowPush rowNodesP (n, .slice none 0 0) rfl (by simp [Value.oneCell']) hl ty
  refine ⟨o, c, w', hrun, ?_, fun x hx => ?_⟩
  · have h2 := (hI.rowNil 9 1 encS)
    have e : recO (n, .slice none 0 0) = oRow 9 1 encS (.slice none 0 0) [] := by unfold recO; rw [hr]
    rw [List.map_append, List.map_cons, List.map_nil, e]
    exact h2.perm (by
      refine (List.perm_middle (l₁ := oRow 49 10 encN (.slice o (nds.length + 1) c) (nds ++ [(n, .slice none 0 0)]) :: nds.map recO) (l₂ := Ls)).symm.trans ?_
      simp)
  · rcases List.mem_append.1 hx with hx | hx
    · exact h.2 x hx
    · rw [List.mem_singleton.1 hx]; exact ⟨none, 0, 0, rfl⟩
/-- One line more of the last node's recipe. -/
theorem PSq.tab {n : Nd} {rv : Value} {g c : Nat} (h : PSq w0 (.slice (some ⟨g, 0, none⟩) (nds.length + 1) c) (nds ++ [(n, rv)]) Ls w) (t : BS) (hl : n.recipe.length < 1073741824) (ty : TypeId) :
    ∃ o c' w', (Builtin.append_ #[41, 41] ty #[rv, .slice (some ⟨w.heap.size, 0, none⟩) 1 1]).run Tryd.prog (w.alloc (.cells #[.string (txt t)] 9)) = .ok (.slice o (n.recipe.length + 1) c') w' ∧
      w'.cell? ⟨g, nds.length * 10 + 9, none⟩ = some rv ∧ (∀ j, w'.frozen? ⟨g, j, none⟩ = false) ∧ In w0 Ls w' ∧
      PSq w0 (.slice (some ⟨g, 0, none⟩) (nds.length + 1) c) (nds ++ [({ n with recipe := n.recipe ++ [t] }, .slice o (n.recipe.length + 1) c')]) Ls (w'.setCell ⟨g, nds.length * 10 + 9, none⟩ (.slice o (n.recipe.length + 1) c')) := by
  have h0 := h.1.perm (l' := recO (n, rv) :: oRow 49 10 encN (.slice (some ⟨g, 0, none⟩) (nds.length + 1) c) (nds ++ [(n, rv)]) :: (nds.map recO ++ Ls)) (by
    have e1 : oRow 49 10 encN (.slice (some ⟨g, 0, none⟩) (nds.length + 1) c) (nds ++ [(n, rv)]) :: ((nds ++ [(n, rv)]).map recO ++ Ls) =
        (oRow 49 10 encN (.slice (some ⟨g, 0, none⟩) (nds.length + 1) c) (nds ++ [(n, rv)]) :: nds.map recO) ++ recO (n, rv) :: Ls := by simp
    rw [e1]
    exact List.perm_middle)
  obtain ⟨o, c', w', hrun, hI⟩ := In.rowPush (t := 41) (enc := encS) (v := rv) (l := n.recipe) rowStrings.wide h0 t rfl (by simp [Value.oneCell']) hl ty
  refine ⟨o, c', w', hrun, ?_, ?_, hI.tail.tail.drop, ?_, fun x hx => ?_⟩
  · obtain ⟨xo, xc, hxv, _, hxx⟩ := hI.rowShape (E := 49) (k := 10) (enc := encN) (v := .slice (some ⟨g, 0, none⟩) (nds.length + 1) c) (l := nds ++ [(n, rv)]) (by simp) (fun _ => rfl)
    obtain ⟨g2, hg2, _, _, hc⟩ := hxx nds.length (n, rv) (by simp)
    simp only [Value.slice.injEq] at hxv
    have hgg : g2 = g := by
      have := hxv.1.trans hg2
      simp at this
      exact this.symm
    subst hgg
    exact hc 9 (by omega)
  · obtain ⟨xo, xc, hxv, _, hxx⟩ := hI.rowShape (E := 49) (k := 10) (enc := encN) (v := .slice (some ⟨g, 0, none⟩) (nds.length + 1) c) (l := nds ++ [(n, rv)]) (by simp) (fun _ => rfl)
    obtain ⟨g2, hg2, _, hf, _⟩ := hxx nds.length (n, rv) (by simp)
    simp only [Value.slice.injEq] at hxv
    have hgg : g2 = g := by
      have := hxv.1.trans hg2
      simp at this
      exact this.symm
    subst hgg
    exact hf
  · have h1 := hI.swap
    unfold oRow at h1
    have hA : (nds.flatMap encN).length = nds.length * 10 := flat_ten nds
    have e : ∀ x : NV, (nds ++ [x]).flatMap encN = nds.flatMap encN ++ encN x := fun x => by rw [List.flatMap_append]; simp
    rw [e, List.length_append] at h1
    have k1 := In.flatSet (p := nds.length * 10 + 9) (u := .slice o (n.recipe.length + 1) c') h1 (by rw [List.length_append, hA]; simp)
    rw [set_at hA] at k1
    have k2 : In w0 (oRow 49 10 encN (.slice (some ⟨g, 0, none⟩) (nds.length + 1) c) (nds ++ [({ n with recipe := n.recipe ++ [t] }, .slice o (n.recipe.length + 1) c')]) :: recO ({ n with recipe := n.recipe ++ [t] }, .slice o (n.recipe.length + 1) c') :: (nds.map recO ++ Ls)) (w'.setCell ⟨g, nds.length * 10 + 9, none⟩ (.slice o (n.recipe.length + 1) c')) := by
      unfold oRow
      rw [e, List.length_append]
      exact k1
    refine k2.perm ?_
    refine List.Perm.cons _ ?_
    have e2 : (nds ++ [(({ n with recipe := n.recipe ++ [t] }, .slice o (n.recipe.length + 1) c') : NV)]).map recO ++ Ls = nds.map recO ++ recO ({ n with recipe := n.recipe ++ [t] }, .slice o (n.recipe.length + 1) c') :: Ls := by simp
    rw [e2]
    exact List.perm_middle.symm
  · rcases List.mem_append.1 hx with hx | hx
    · exact h.2 x (List.mem_append_left _ hx)
    · rw [List.mem_singleton.1 hx]; exact ⟨_, _, _, rfl⟩
theorem PSq.reads (h : PSq w0 ov nds Ls w) : ReadsN w w.heap.size ov (nds.map (·.1)) := by
  obtain ⟨o, c, hv, h1, h2⟩ := h.nodes
  refine ⟨o, c, by rw [List.length_map]; exact hv, fun j x hj => ?_⟩
  rw [List.getElem?_map] at hj
  obtain ⟨y, hy, rfl⟩ := Option.map_eq_some_iff.1 hj
  obtain ⟨g, hg, hl, _, hc⟩ := h2 j y hy
  refine ⟨g, 0, y.2, hg, hl, by rw [List.length_map]; exact h1, fun i hi => by rw [Nat.zero_add]; exact hc i hi, ?_⟩
  have hm : recO y ∈ oRow 49 10 encN ov nds :: (nds.map recO ++ Ls) := List.mem_cons_of_mem _ (List.mem_append_left _ (List.mem_map.2 ⟨y, List.mem_of_getElem? hy, rfl⟩))
  obtain ⟨o2, c2, hv2, h3, h4⟩ := h.1.rowShape (E := 9) (k := 1) (enc := encS) (v := y.2) (l := y.1.recipe) hm (fun _ => rfl)
  refine ⟨o2, c2, by rw [List.length_map]; exact hv2, fun k s hk => ?_⟩
  rw [List.getElem?_map] at hk
  obtain ⟨z, hz, rfl⟩ := Option.map_eq_some_iff.1 hk
  obtain ⟨g2, hg2, hl2, _, hc2⟩ := h4 k z hz
  have := hc2 0 (by omega)
  rw [Nat.mul_one, Nat.add_zero] at this
  exact ⟨g2, 0, hg2, hl2, by rw [List.length_map]; exact h3, by rw [Nat.zero_add]; exact this⟩
end
theorem ParsePost.rightQ {w w' : World} {k : Parsed} {o : Option Addr} {c : Nat} {nds : List NV} {Ls : List Own} (h : k = (nds.map (·.1), 0, 0)) (hS : PSq w (.slice o nds.length c) nds Ls w') : ParsePost k w (.returned (.tuple #[.slice o nds.length c, .int .i64 0, .int .i64 0])) w' := by
  rw [h]
  refine ⟨o, c, by simp, ?_, hS.back⟩
  have := hS.reads
  simpa using this
/-- The struct, new: nothing is open. -/
theorem In.nestNew {w0 w : World} {l : List Own} (h : In w0 l w) : In w0 (oNest w.heap.size [] none :: l) (w.alloc (.cells (List.replicate 20 (Value.bool false) ++ tailN (.slice (some ⟨w.heap.size, 0, none⟩) 0 20) none).toArray 59)) :=
  In.add (X := fun n => n = w.heap.size) h ((Below.refl _ w).alloc (Nat.le_refl _) _) ⟨⟨List.replicate 20 (.bool false), w.heap.size, 20, World.alloc_heap_new w _, by simp, Nat.zero_le _, by decide, .inl ⟨rfl, rfl, rfl⟩⟩, rfl, fun n hn => by rw [hn]; simp⟩ (fun n hn => by rw [hn]; exact Nat.le_refl _)
end Go.Proofs.YtldddecaeloohaaDoor
