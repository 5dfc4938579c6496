/-
  What JournalAgain asks, in plain words; append.
-/
import Derived.Laws.AppendOwnNone
import Derived.OwnWalk
import Derived.Maps.AppendAt
import Derived.Deep.QuietTactic
import Derived.BigQuiet
import Derived.Test.YtgnappifekacpaaGreatDoorJKeep
namespace Go.Proofs.YtgnappifekacpaaGreatDoor
open Go.RowKit Go.Shelf Go.Maps

theorem opA_logs {p : BS} {room : Int} {S : St} {s : BS} (h : Logs p S.now s) (a : BS) : ∃ s', Logs p (opA room S p a).2.now s' ∧ s'.length ≤ s.length + a.length := by
  by_cases hc : (opA room S p a).1 = 0
  · rw [opA_ok hc]
    exact ⟨s ++ a, h.add (c := (1, p, a, S.clock + 1)) rfl, by rw [List.length_append]; exact Nat.le_refl _⟩
  · rw [opA_err hc]
    exact ⟨s, h, by omega⟩
theorem jAdd_logs {p : BS} {room : Int} {S : St} {s : BS} (h : Logs p S.now s) (x : List BS) : ∃ s', Logs p (jAdd room S p x).2.now s' ∧ s'.length ≤ s.length + 13000 := by
  by_cases hc : (jAdd room S p x).1 = 0
  · unfold jAdd at hc ⊢
    split at hc
    · rename_i h1
      split at hc
      · rename_i h2
        rw [if_pos h1, if_pos h2]
        obtain ⟨s', k1, k2⟩ := opA_logs (room := room) h (lineOf x)
        have := line_bound (fit_lineC h2)
        exact ⟨s', k1, by omega⟩
      · rename_i h2; exact absurd hc h2
    · cases hc
  · rw [jAdd_err hc]
    exact ⟨s, h, by omega⟩
/-- What JournalAgain asks, in plain words. -/
theorem again_law {S1 S2 S3 S4 : St} {n : Nat} {s1 : BS} {ls : LL} (hg : Good 1048576 n S1) (h : Logs LGL S1.now s1) (hs : s1.length ≤ 260200) (hls : ls = listsOf s1) (e2 : S2 = (jOpen 1048576 S1 LGL).2.2) (e3 : S3 = (jOpen 1048576 S2 LGL).2.2) (e4 : S4 = (jAnew 1048576 S3 LGL ls).2) :
    (jOpen 1048576 S1 LGL).1 = ls ∧ (jOpen 1048576 S1 LGL).2.1 = 0 ∧ (jOpen 1048576 S2 LGL).1 = ls ∧ (jOpen 1048576 S2 LGL).2.1 = 0 ∧ (jAnew 1048576 S3 LGL ls).1 = 0 ∧ textOf S3.now LGL = linesOfAll ls ∧ textOf S4.now LGL = linesOfAll ls ∧
    (∀ q, (textOf S1.now q).length ≤ 1000000) ∧ (∀ q, (textOf S2.now q).length ≤ 1000000) ∧ (linesOfAll ls).length ≤ 260200 ∧ (∀ x ∈ ls, Fit x) ∧ ls.length ≤ 260200 ∧ Mod ls ∧
    ∀ x, (jAdd 1048576 S4 LGL x).1 = 0 → listsOf (textOf (jAdd 1048576 S4 LGL x).2.now LGL) = ls ++ [x] ∧ wholeB (textOf (jAdd 1048576 S4 LGL x).2.now LGL) = true ∧ (textOf (jAdd 1048576 S4 LGL x).2.now LGL).length ≤ 1000000 := by
  obtain ⟨o1, o2, o3, o4, o5, o6, o7⟩ := logs_open hg h (by omega)
  have hfit : ∀ x ∈ ls, Fit x := by rw [hls]; exact lists_fit s1
  have hll : (linesOfAll ls).length ≤ 260200 := by have := lists_len s1; rw [← hls] at this; omega
  have hlc : ls.length ≤ 260200 := by have := lists_count s1; rw [← hls] at this; omega
  rw [← e2, ← hls] at o4
  rw [← e2] at o6 o7
  have g2 := hg.jOpen LGL
  rw [← e2] at g2
  have u2 := lg_used g2.files.srt o6
  rw [o4, text_none o7] at u2
  simp only [List.length_nil] at u2
  have p2 := lg_open g2 o6 (by rw [o4]; omega) (by rw [text_none o7]; simp)
  have hln := lists_lines ls hfit
  have g3 := g2.jOpen LGL
  have k3 := p2.keys
  have t3 := p2.text
  have b3 := p2.beside
  have l2 := p2.lists
  rw [o4, hln.1] at t3 l2
  rw [← e3] at t3 g3 k3 b3
  have u3 := lg_used g3.files.srt k3
  rw [t3, text_none b3] at u3
  simp only [List.length_nil] at u3
  obtain ⟨a1, a2, a3, a4, a5, a6⟩ := lg_anew (all := ls) g3 k3 (by omega) hfit hll
  have g4 := g3.jAnew LGL ls
  rw [← e4] at a2 a3 a4 a5 a6 g4
  refine ⟨by rw [hls]; exact o1, o2, l2, p2.code, a1, t3, a5, o5, short_all u2 (by omega), hll, hfit, hlc, by rw [hls]; exact mod_lines (by omega), fun x hc => ?_⟩
  unfold jAdd at hc ⊢
  split at hc
  · rename_i h1
    split at hc
    · rename_i h2
      rw [if_pos h1, if_pos h2, opA_ok hc]
      have hx := fit_lineC h2
      have hb := line_bound hx
      have ht : textOf (doSt S4 1 LGL (lineOf x)).now LGL = linesOfAll (ls ++ [x]) := by
        show textOf (after S4.now (1, LGL, lineOf x, S4.clock + 1)) LGL = _
        rw [after1, text_put_same g4.files.srt, a5, lines_app, lines_one]
      have hf2 : ∀ y ∈ ls ++ [x], Fit y := fun y hy => by
        rcases List.mem_append.1 hy with hy | hy
        · exact hfit y hy
        · simp at hy; rw [hy]; exact hx
      have := lists_lines _ hf2
      show listsOf (textOf (doSt S4 1 LGL (lineOf x)).now LGL) = _ ∧ wholeB (textOf (doSt S4 1 LGL (lineOf x)).now LGL) = true ∧ (textOf (doSt S4 1 LGL (lineOf x)).now LGL).length ≤ 1000000
      rw [ht]
      refine ⟨this.1, this.2, ?_⟩
      rw [lines_app, lines_one, List.length_append]
      omega
    · rename_i h2; exact absurd hc h2
  · cases hc

/-! ### append, onto a row of the call's own -/
theorem wpList_append_eqg {P : Program} {w : World} {ops : Array Oper} {rest : List Oper} {o : Oper} {a : Act} {Q : Exit → Act → World → Prop} (hw : Region.wanted o (yielded ops a.tmps) = true) (s x : Operand) (t : TypeId)
    (hop : o.op = Op.call { callee := Callee.builtin Builtin.append, args := #[s, x], argTypes := #[t, t] }) (v u v' : Value) (w' : World) (hs : a.eval s = v) (hx : a.eval x = u)
    (hrun : (Builtin.append_ #[t, t] o.type #[v, u]).run P w = .ok v' w') (h : wpList P ops Q rest (a.put o.dst v') w') : wpList P ops Q (o :: rest) a w := by
  refine wpList_step fun K hK => ?_
  rw [hw, if_pos rfl]
  unfold Oper.wp
  simp [execOp, hop, resolve, invoke, builtin, hs, hx, hrun, Result.andThen]
  exact hK _ _ h
theorem cell_step {W : World} {b f : Nat} (j : Nat) : W.cell? ((⟨b, f, none⟩ : Addr).add j) = W.cell? ⟨b, f + j, none⟩ := by rw [Addr.add_lit]
/-- A row that reads as lists, put onto an empty one of the call's own; and one list more. -/
theorem two_appends {W : World} {o o2 : Option Addr} {c n2 c2 : Nat} {X : List (List ByteArray)} {y : List ByteArray} (hX : ReadsLL W W.heap.size (.slice o X.length c) X) (hy : ReadsO W W.heap.size (.slice o2 n2 c2) y) (hl : X.length ≤ 1000000) :
    ∃ oa ca wa, (Builtin.append_ #[32, 32] 32 #[.slice (some ⟨W.heap.size, 0, none⟩) 0 0, .slice o X.length c]).run Tryz.prog (W.alloc (.cells #[] 37)) = .ok (.slice oa X.length ca) wa ∧
    ∃ ob cb wb, (Builtin.append_ #[32, 32] 32 #[.slice oa X.length ca, .slice (some ⟨wa.heap.size, 0, none⟩) 1 1]).run Tryz.prog (wa.alloc (.cells #[.slice o2 n2 c2] 37)) = .ok (.slice ob (X.length + 1) cb) wb ∧
      ReadsLL wb wb.heap.size (.slice ob (X.length + 1) cb) (X ++ [y]) ∧ Below W.heap.size W wb := by
  obtain ⟨i0, hi, hz0, hz1, hz2⟩ := info_parts infoList
  have hba : Below W.heap.size W (W.alloc (.cells #[] 37)) := (Below.refl _ _).alloc (Nat.le_refl _) _
  have hsa : (W.alloc (.cells #[] 37)).heap.size = W.heap.size + 1 := by simp
  have hx0 := World.alloc_heap_new W (.cells #[] 37)
  generalize W.alloc (.cells #[] 37) = W1 at hba hsa hx0 ⊢
  have hown : W1.ownsRow W.heap.size 37 1 (.slice (some ⟨W.heap.size, 0, none⟩) 0 0) 0 [] :=
    ⟨by simp, .inr ⟨W.heap.size, 0, #[], rfl, Nat.le_refl _, hx0, Nat.le_refl _, by simp [maxLen], by simp, by simp⟩⟩
  -- the values that the row holds
  obtain ⟨us, hul, hus⟩ : ∃ us : List Value, us.length = X.length ∧ ∀ i l, X[i]? = some l → ∃ u, us[i]? = some u ∧ u.oneCell' = true ∧ (∃ b f, o = some ⟨b, f, none⟩ ∧ X.length ≤ c ∧ W.cell? ⟨b, f + i, none⟩ = some u) ∧ ReadsO W W.heap.size u l := by
    obtain ⟨o', c', hv, hx⟩ := hX
    cases hv
    have each : ∀ i, i < X.length → ∃ u, u.oneCell' = true ∧ (∃ b f, o = some ⟨b, f, none⟩ ∧ X.length ≤ c ∧ W.cell? ⟨b, f + i, none⟩ = some u) ∧ ∀ l, X[i]? = some l → ReadsO W W.heap.size u l := by
      intro i hil
      obtain ⟨b, f, u, h1, h2, h3, h4, h5⟩ := hx i _ (List.getElem?_eq_getElem hil)
      obtain ⟨uo, uc, rfl, _⟩ := id h5
      exact ⟨_, rfl, ⟨b, f, h1, h3, h4⟩, fun l hl => by rw [List.getElem?_eq_getElem hil] at hl; cases hl; exact h5⟩
    classical
    refine ⟨(List.range X.length).map fun i => if h : i < X.length then Classical.choose (each i h) else .nilIface, by simp, fun i l hl => ?_⟩
    have hil := (List.getElem?_eq_some_iff.1 hl).1
    have hc := Classical.choose_spec (each i hil)
    refine ⟨Classical.choose (each i hil), ?_, hc.1, hc.2.1, hc.2.2 l hl⟩
    rw [List.getElem?_map, List.getElem?_range hil]
    simp [hil]
  -- the first append
  obtain ⟨va, wa, hrun1, hown1, hgr1⟩ : ∃ va wa, (Builtin.append_ #[32, 32] 32 #[.slice (some ⟨W.heap.size, 0, none⟩) 0 0, .slice o X.length c]).run Tryz.prog W1 = .ok va wa ∧ wa.ownsRow W.heap.size 37 1 va X.length us ∧ W1.grownBy wa (some W.heap.size) := by
    rcases (show o = none ∨ ∃ a, o = some a by cases o <;> simp) with rfl | ⟨a, rfl⟩
    · have h0 : X.length = 0 := by
        refine Nat.eq_zero_of_not_pos fun h => ?_
        obtain ⟨u, _, _, ⟨b, f, h1, _⟩, _⟩ := hus 0 _ (List.getElem?_eq_getElem h)
        cases h1
      obtain rfl : us = [] := List.eq_nil_of_length_eq_zero (by omega)
      rw [h0]
      refine ⟨_, W1, ?_, hown, ⟨rfl, rfl, rfl, Nat.le_refl _, fun _ _ _ => rfl⟩⟩
      simp [Builtin.append_, run_underlying Tryz.underlying32, sizeOf, typeInfo, hi, Builtin.lenOf, Builtin.firstCells, storeCells]
    · obtain ⟨v', w', hrun, h2, h3, _⟩ := run_append_own_at (P := Tryz.prog) (w := W1) W.heap.size 32 32 37 i0 _ 1 24 Tryz.underlying32 hi hz0 hz1 hz2 rfl (by decide) (.slice (some ⟨W.heap.size, 0, none⟩) 0 0) 0 [] hown a X.length c us (by omega)
        (by
          intro j u hj
          have hjl : j < X.length := by have := (List.getElem?_eq_some_iff.1 hj).1; omega
          obtain ⟨u', h1, _, ⟨b, f, h4, _, h6⟩, _⟩ := hus j _ (List.getElem?_eq_getElem hjl)
          rw [hj] at h1
          cases h1
          cases h4
          rw [cell_step]
          exact (hba.cell (p := ⟨b, f + j, none⟩) (by unfold World.cell? at h6; simp only at h6; cases hh : W.heap[b]? with | none => rw [hh] at h6; simp at h6 | some ob => exact (Array.getElem?_eq_some_iff.1 hh).1)).trans h6)
        (by
          intro u hu
          obtain ⟨j, hj, rfl⟩ := List.getElem_of_mem hu
          obtain ⟨u', h1, h2, _⟩ := hus j _ (List.getElem?_eq_getElem (by omega : j < X.length))
          rw [List.getElem?_eq_getElem hj] at h1
          cases h1
          exact h2)
        (by unfold maxLen; omega) (by omega) (by omega)
      rw [Nat.zero_add, List.nil_append] at h2
      exact ⟨v', w', hrun, h2, h3⟩
  obtain ⟨oa, ca, rfl⟩ := ownsRow_shape hown1
  have hb1 : Below W.heap.size W wa := (hba.trans ((turned_grown (X := fun n => n = W.heap.size) hgr1 (fun g hg => (Option.some.inj hg).symm)).below (by omega) (fun n hn => by omega)))
  -- the second one
  have hbw : Below wa.heap.size wa (wa.alloc (.cells #[.slice o2 n2 c2] 37)) := (Below.refl _ _).alloc (Nat.le_refl _) _
  have hx2 := World.alloc_heap_new wa (.cells #[.slice o2 n2 c2] 37)
  have hs2 : (wa.alloc (.cells #[.slice o2 n2 c2] 37)).heap.size = wa.heap.size + 1 := by simp
  have hown2 := hown1.alloc (.cells #[.slice o2 n2 c2] 37)
  have hsz := hb1.size
  refine ⟨oa, ca, wa, hrun1, ?_⟩
  generalize wa.alloc (.cells #[.slice o2 n2 c2] 37) = w2 at hbw hx2 hs2 hown2 ⊢
  obtain ⟨vb, wb, hrun2, k2, k3, _⟩ := run_append_own_at (P := Tryz.prog) (w := w2) W.heap.size 32 32 37 i0 _ 1 24 Tryz.underlying32 hi hz0 hz1 hz2 rfl (by decide) (.slice oa X.length ca) X.length us hown2 ⟨wa.heap.size, 0, none⟩ 1 1 [.slice o2 n2 c2] (by simp)
    (by
      intro j u hj
      have hj0 : j = 0 := by have := (List.getElem?_eq_some_iff.1 hj).1; simp at this; exact this
      subst hj0
      cases hj
      rw [cell_step]
      exact cell_at hx2 rfl)
    (by intro u hu; simp at hu; rw [hu]; rfl) (by unfold maxLen; omega) (by omega) (by omega)
  obtain ⟨ob, cb, rfl⟩ := ownsRow_shape k2
  have hbb : Below W.heap.size W wb := (hb1.trans (hbw.mono hsz)).trans ((turned_grown (X := fun n => W.heap.size ≤ n) k3 (fun g hg => (hown2.lt g hg).1)).below (by omega) (fun n hn => hn))
  refine ⟨ob, cb, wb, hrun2, ?_, hbb⟩
  rcases k2.2 with ⟨_, h0⟩ | ⟨g, cap, cur, hv, hgb, hgg, hcap, _, hcs, htk⟩
  · omega
  · cases hv
    refine ⟨some ⟨g, 0, none⟩, cb, by rw [List.length_append]; rfl, fun i l hi2 => ?_⟩
    have hval : ∃ u, (us ++ [.slice o2 n2 c2])[i]? = some u ∧ ReadsO W W.heap.size u l := by
      rcases Nat.lt_or_ge i X.length with hlt | hge
      · rw [List.getElem?_append_left hlt] at hi2
        obtain ⟨u, h1, _, _, h4⟩ := hus i l hi2
        exact ⟨u, by rw [List.getElem?_append_left (by omega)]; exact h1, h4⟩
      · rw [List.getElem?_append_right hge] at hi2
        have hi0 : i - X.length = 0 := by have := (List.getElem?_eq_some_iff.1 hi2).1; simp at this; omega
        rw [hi0] at hi2
        cases hi2
        exact ⟨_, by rw [List.getElem?_append_right (by omega), hul, hi0]; rfl, hy⟩
    obtain ⟨u, h1, h2⟩ := hval
    have hil : i < X.length + 1 := by have := (List.getElem?_eq_some_iff.1 hi2).1; simpa using this
    refine ⟨g, 0, u, rfl, (Array.getElem?_eq_some_iff.1 hgg).1, by rw [List.length_append]; exact hcap, ?_, h2.below hbb hbb.size⟩
    rw [← htk, List.getElem?_take_of_lt (by omega)] at h1
    exact cell_at hgg (by rw [Nat.zero_add, ← Array.getElem?_toList]; exact h1)

end Go.Proofs.YtgnappifekacpaaGreatDoor
