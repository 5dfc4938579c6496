/-
  What Clone answers: a tree just like it, in new blocks. For any tree.
-/
import Derived.Deep.RegionHeld3
import Derived.Test.YtginlknlkbhgaaaFAll
namespace Go.Proofs.Ytginlknlkbhgaaa
open Go.RowKit Go.Shelf Go.Maps

/-- A whole row, put behind an empty one of the call's own. -/
theorem RowR.copy {α : Type} {t E : TypeId} {k : Nat} {enc : α → List Value} {w W : World} {P : Nat → Prop} {g c : Nat} {l : List α} (hT : RowT t E k) (h : RowR E k enc w P (.slice (some ⟨g, 0, none⟩) l.length c) l) (_hk : ∀ x, (enc x).length = k) (h1 : ∀ x, ∀ u ∈ enc x, u.oneCell' = true)
    (hl : l.length < 1073741824) (ty : TypeId) (hW : W = w.alloc (.cells #[] E)) :
    ∃ v' w', (Builtin.append_ #[t, t] ty #[.slice (some ⟨w.heap.size, 0, none⟩) 0 0, .slice (some ⟨g, 0, none⟩) l.length c]).run Try.prog W = .ok v' w' ∧ RowR E k enc w' (fun n => w.heap.size ≤ n) v' l ∧ Below w.heap.size w w' := by
  obtain ⟨i, z, bytes, hi, hz, hs, hby, hzs, hb64⟩ := hT.info
  have hn0 : W.ownsRow w.heap.size E k (.slice (some ⟨w.heap.size, 0, none⟩) 0 0) 0 [] := by
    refine ⟨by simp, .inr ⟨w.heap.size, 0, #[], rfl, Nat.le_refl _, ?_, Nat.le_refl _, by simp [maxLen], by simp, by simp⟩⟩
    rw [hW]; exact World.alloc_heap_new w _
  have hWs : W.heap.size = w.heap.size + 1 := by rw [hW]; simp
  have hlenf : (l.flatMap enc).length = l.length * k := h.1.1
  obtain ⟨v', w', hr, h2, h3, h4⟩ := run_append_own (P := Try.prog) (w := W) w.heap.size t ty E i z k bytes hT.under hi hz hs hby hzs hT.pos (.slice (some ⟨w.heap.size, 0, none⟩) 0 0) 0 [] hn0 ⟨g, 0, none⟩ l.length c (l.flatMap enc) hlenf (fun j u hu => by
      rcases h.1.2 with ⟨hv, _⟩ | ⟨g', cap, cur, hv, _, hgg, q1, q2, q3, q4⟩
      · cases hv
      · cases hv
        rw [Addr.add_lit, Nat.zero_add]
        have hg2 : W.heap[g]? = some (.cells cur E (0, 0)) := by rw [hW]; exact (Below.heap_alloc _ _ _ (Array.getElem?_eq_some_iff.1 hgg).1).trans hgg
        rw [Lib.cell_of_heap hg2]
        have hj : j < l.length * k := by rw [← hlenf]; exact (List.getElem?_eq_some_iff.1 hu).1
        rw [← q4, List.getElem?_take_of_lt hj] at hu
        simpa using hu) (fun u hu => by
      obtain ⟨x, _, hx⟩ := List.mem_flatMap.1 hu
      exact h1 x u hx) (by unfold maxLen; omega) (by
        calc (0 + l.length) * bytes ≤ 1073741824 * 64 := Nat.mul_le_mul (by omega) hb64
          _ ≤ 140737488355328 := by omega) (by omega)
  refine ⟨v', w', hr, ⟨?_, fun n hn => ?_⟩, ?_⟩
  · simp only [Nat.zero_add, List.nil_append] at h2
    refine ⟨h2.1, ?_⟩
    rcases h2.2 with hx | ⟨g2, cap, cur, r1, _, r2⟩
    · exact .inl hx
    · exact .inr ⟨g2, cap, cur, r1, Nat.zero_le _, r2⟩
  · rcases h2.2 with ⟨rfl, _⟩ | ⟨g2, cap, cur, rfl, r1, _⟩
    · simp [Value.ownBlock] at hn
    · simp [Value.ownBlock] at hn; omega
  · have hT1 : Turned (fun n => n = w.heap.size) W w' := turned_grown h3 (fun g hg => by simp [Value.ownBlock] at hg; omega)
    have h0 : Turned (fun _ => False) w W := by rw [hW]; exact Turned.alloc _ _ _
    exact (h0.andThen hT1 (fun n hn => .inr (by omega))).below (Nat.le_refl _) (fun _ h => h.elim)

theorem eqsSome (a : Addr) (n c : Nat) (w : World) : (binOp .eql 65 (.slice (some a) n c) (.slice none 0 0)).run Try.prog w = .ok (.bool false) w := by kernel_rfl
theorem eqsNil (w : World) : (binOp .eql 65 (.slice none 0 0) (.slice none 0 0)).run Try.prog w = .ok (.bool true) w := by kernel_rfl
theorem ch_one (x : Ch) : ∀ u ∈ chCells x, u.oneCell' = true := by simp [chCells, Value.oneCell']

set_option maxRecDepth 100000 in
set_option maxHeartbeats 1000000 in
theorem sclone_any (v : Value) (P : Nat → Prop) (l : List Ch) (w : World) (h : RowR 72 5 chCells w P v l) (hl : l.length < 1073741824) :
    Calls Try.prog 35 #[v] w fun e w' => ∃ v', e = .returned v' ∧ RowR 72 5 chCells w' (fun n => w.heap.size ≤ n) v' l ∧ Below w.heap.size w w' := by
  obtain ⟨o, c, rfl, h1, h2, h3, h4⟩ := h.shape (fun _ => rfl)
  cases o with
  | none =>
    have hl0 : l = [] := by
      cases l with
      | nil => rfl
      | cons x r => obtain ⟨g, hg, _⟩ := h4 0 x rfl; cases hg
    subst hl0
    have hc0 : c = 0 := by
      rcases h.1.2 with ⟨hv, _⟩ | ⟨g', cap, cur, hv, _⟩
      · simpa using hv
      · cases hv
    subst hc0
    have hq := eqsNil
    clear h h1 h2 h3 h4
    go_enter Try.func35, Try.ntmps35
    go_wp2
    go_ret
    exact ⟨_, rfl, RowR.nil _ _ _ _ _, Below.refl _ _⟩
  | some a =>
    obtain ⟨g, rfl, _⟩ := h3 a rfl
    obtain ⟨v', w', hr, hrow, hb⟩ := RowR.copy rowCh h (fun _ => rfl) ch_one hl 65 rfl
    have hq := eqsSome ⟨g, 0, none⟩ l.length c
    have HR := Lib.hid hrow
    clear h h1 h2 h3 h4 hrow
    go_enter Try.func35, Try.ntmps35
    go_wp2_with (first
      | (at_builtin; refine wpList_append_eq rfl _ _ 65 rfl _ _ _ w' rfl rfl hr ?_)
      | go_in)
    go_ret
    exact ⟨_, rfl, HR.out, hb⟩

/-- What a copy of a map gives, whichever of the tree's two it is of. -/
def Copied (w : World) (m : Option Nat) (wq w' : World) : Prop := (∀ L, MapV w m L → L.length < 1073741824 → IsM w' wq.heap.size (bare L)) ∧ Below wq.heap.size wq w'

theorem CkAt.alloc {w a : World} (h : CkAt w a) (o : Obj) : CkAt w (a.alloc o) := Below.alloc h h.size o

/-- The new tree, out of its three parts. -/
theorem tree_copied {w W3 W4 W5 : World} {bt : Nat} {X : Nat → Prop} {room : Int} {S : St} {nm sm : Option Nat} {pv : Value} {YN YS YP : Nat → Prop} {LN LS : FVs} (_hq : TreeP w X bt room S.clock nm sm pv YN YS YP LN LS S.pend) (h1 : strip LN = S.now) (h2 : strip LS = S.last)
    {b1 b2 : Nat} {v' : Value} (hb1 : w.heap.size ≤ b1) (hM1 : IsM W3 b1 (bare LN)) (hb2 : W3.heap.size ≤ b2) (h34 : Below W3.heap.size W3 W4) (hM2 : IsM W4 b2 (bare LS)) (h45 : Below W4.heap.size W4 W5) (hr : RowR 72 5 chCells W5 (fun n => W4.heap.size ≤ n) v' S.pend) :
    TreeS (W5.alloc (.cells #[.int .i64 room, .int .i64 S.clock, .map (some b1), .map (some b2), v'] 67)) (fun n => w.heap.size ≤ n ∧ n < W5.heap.size + 1) W5.heap.size room S := by
  have l1 := hM1.lt
  have l2 := hM2.lt
  have s34 := h34.size
  have s45 := h45.size
  obtain ⟨W6, hW6⟩ : ∃ W6, W6 = W5.alloc (.cells #[.int .i64 room, .int .i64 S.clock, .map (some b1), .map (some b2), v'] 67) := ⟨_, rfl⟩
  have h56 : Below W5.heap.size W5 W6 := by rw [hW6]; exact (Below.refl _ _).alloc (Nat.le_refl _) _
  have s6 : W6.heap.size = W5.heap.size + 1 := by rw [hW6]; simp
  have hc : TreeC W6 W5.heap.size room S.clock (some b1) (some b2) v' := by rw [hW6]; exact World.alloc_heap_new W5 _
  have hM1' : IsM W6 b1 (bare LN) := ((hM1.kept (h34.block b1 l1)).kept (h45.block b1 (by omega))).kept (h56.block b1 (by omega))
  have hM2' : IsM W6 b2 (bare LS) := (hM2.kept (h45.block b2 l2)).kept (h56.block b2 (by omega))
  have hr' := hr.tight.kept (turned_below h56) (fun _ _ => id)
  rw [← hW6]
  refine ⟨some b1, some b2, v', fun n => n = b1, fun n => n = b2, _, bare LN, bare LS, ⟨hc, NowR.bare hM1', NowR.bare hM2', hr', ⟨by omega, by omega⟩, fun n hn => by omega, fun n hn => by omega, fun n hn => by omega, fun hn => by omega, fun hn => by omega, fun hn => by omega, fun n (hn : n = b1) (hx : n = b2) => by omega, fun n (hn : n = b1) hx => by omega, fun n (hn : n = b2) hx => by omega, fun n hn => by omega⟩, by rw [strip_bare, h1], by rw [strip_bare, h2]⟩

set_option maxRecDepth 100000 in
set_option maxHeartbeats 4000000 in
theorem clone_tree (bt : Nat) (X : Nat → Prop) (room : Int) (S : St) (w : World) (h : TreeS w X bt room S) (ho : OkS room S) (hll : S.last.length < 1073741824) :
    Calls Try.prog 14 #[.pointer (some ⟨bt, 0, none⟩)] w fun r w' => ∃ b, r = .returned (.pointer (some ⟨b, 0, none⟩)) ∧ TreeS w' (fun n => w.heap.size ≤ n ∧ n < w'.heap.size) b room S ∧ Below w.heap.size w w' := by
  obtain ⟨nm, sm, pv, YN, YS, YP, LN, LS, hq, h1, h2⟩ := id h
  have hlN : LN.length < 1073741824 := by rw [← strip_length, h1]; have := ho.files; omega
  have hlS : LS.length < 1073741824 := by rw [← strip_length, h2]; exact hll
  have hXl := hq.lt
  have HC : Hid (∀ (wq : World) (m : Option Nat), CkAt w wq → (m = nm ∨ m = sm) → Calls Try.prog 34 #[.map m] wq fun e w' => e = .returned (.map (some wq.heap.size)) ∧ CkAt w w' ∧ Copied w m wq w') := by
    intro wq m hb hm
    obtain ⟨L, hL, hlL⟩ : ∃ L, MapV w m L ∧ L.length < 1073741824 := by
      rcases hm with rfl | rfl
      · exact ⟨LN, hq.now.map, hlN⟩
      · exact ⟨LS, hq.last.map, hlS⟩
    refine (clone_any m L wq (hL.below hb (Nat.le_refl _)) (by omega)).mono (fun e w' hr => ⟨hr.1, hb.step hr.2.2, fun L' hL' hl' => ?_, hr.2.2⟩)
    have hLL : L' = L := by
      rcases hL with ⟨ha, hb⟩ | ⟨b, ha, hb⟩ <;> rcases hL' with ⟨hc, hd⟩ | ⟨c, hc, hd⟩
      · rw [hb, hd]
      · rw [ha] at hc; cases hc
      · rw [ha] at hc; cases hc
      · rw [ha] at hc
        cases hc
        obtain ⟨⟨es, clk, q1, _, _, q2⟩, q3⟩ := hb
        obtain ⟨⟨es', clk', p1, _, _, p2⟩, p3⟩ := hd
        rw [q1] at p1
        cases p1
        have e := q2.trans p2.symm
        unfold dat at e
        have e2 : L.map (fun y => ((.string y.1 : Lit), (.held y.2 : DataW FV))) = L'.map (fun y => (.string y.1, .held y.2)) := by simpa using e
        exact (List.map_inj_right (fun a b hab => by
          obtain ⟨a1, a2⟩ := a
          obtain ⟨b1, b2⟩ := b
          simp only [Prod.mk.injEq, Lit.string.injEq, DataW.held.injEq] at hab
          rw [hab.1, hab.2])).1 e2.symm
    rw [hLL]; exact hr.2.1
  have HR : Hid (∀ wq, CkAt w wq → Calls Try.prog 35 #[pv] wq fun e w' => ∃ o n c, e = .returned (.slice o n c) ∧ CkAt w w' ∧ RowR 72 5 chCells w' (fun n => wq.heap.size ≤ n) (.slice o n c) S.pend ∧ Below wq.heap.size wq w') := by
    intro wq hb
    refine (sclone_any pv YP S.pend wq (hq.row.kept (X := fun _ => False) ?_ ?_) (by have := ho.pends; omega)).mono (fun e w' hr => ?_)
    · exact ⟨hb.os, hb.tape, hb.output, hb.size, fun k hk _ => hb.block k hk⟩
    · exact fun _ _ => id
    · obtain ⟨v', r1, r2, r3⟩ := hr
      obtain ⟨o, c, rfl, _⟩ := r2.shape (fun _ => rfl)
      exact ⟨o, _, c, r1, hb.step r3, r2, r3⟩
  have HT : Hid (∀ w1, CkAt w w1 → w1.cell? ⟨bt, 0, none⟩ = some (.int .i64 room) ∧ w1.cell? ⟨bt, 1, none⟩ = some (.int .i64 S.clock) ∧ w1.cell? ⟨bt, 2, none⟩ = some (.map nm) ∧ w1.cell? ⟨bt, 3, none⟩ = some (.map sm) ∧ w1.cell? ⟨bt, 4, none⟩ = some pv ∧ CkAt w w1) := fun w1 hb => let h := (hq.cells.below hb hq.cells.lt).cell; ⟨h.1, h.2.1, h.2.2.1, h.2.2.2.1, h.2.2.2.2, hb⟩
  have HQ := Lib.hid hq
  have H1 := Lib.hid h1
  have H2 := Lib.hid h2
  have hd0 : CkAt w w.drew := below_drew (Below.refl _ w)
  obtain ⟨c0, c1, c2, c3, c4, _⟩ := HT.out w.drew hd0
  have mixed := lays169.mixed
  clear h hq h1 h2 ho hll
  go_enter Try.func14, Try.ntmps14
  go_wp2
  go_region_held3 (fun w' => w'.cell? ⟨bt, 0, none⟩ = some (.int .i64 room) ∧ w'.cell? ⟨bt, 1, none⟩ = some (.int .i64 S.clock) ∧ w'.cell? ⟨bt, 2, none⟩ = some (.map nm) ∧ w'.cell? ⟨bt, 3, none⟩ = some (.map sm) ∧ w'.cell? ⟨bt, 4, none⟩ = some pv ∧ CkAt w w')
    (first | exact HT.out _ (by assumption) | exact HT.out _ (CkAt.alloc (by assumption) _))
    (first
      | (go_at_call 34; refine (HC.out _ _ (by assumption) (by simp)).mono ?_; rintro r w3 ⟨rfl, hb3, hcp3⟩)
      | (go_at_call 35; refine (HR.out _ (by assumption)).mono ?_; rintro r w5 ⟨o5, n5, c5, rfl, hb5, hr5, hbb5⟩))
  all_goals (
    have hA := ‹Copied w nm w.drew _›
    have hB := ‹Copied w sm _ _›
    have hT := Lib.hid (tree_copied HQ.out H1.out H2.out (Nat.le_refl w.heap.size) (hA.1 LN HQ.out.now.map hlN) (Nat.le_refl _) hB.2 (hB.1 LS HQ.out.last.map hlS) hbb5 hr5)
    have hbe : Hid (∀ o, CkAt w (w5.alloc o)) := fun o => CkAt.alloc hb5 o
    clear hA hB hr5 hbb5
    go_wp2
    go_ret
    refine ⟨_, rfl, ?_, hbe.out _⟩
    have := hT.out
    rwa [← World.size_alloc] at this)

end Go.Proofs.Ytginlknlkbhgaaa
