/-
  The document's own tree, as it keeps it; a change, done.
-/
import Derived.Deep.RegionHeld3
import Derived.Deep.Upon
import Derived.Test.YtginlknlkbhgaaaFRef4
import Derived.Test.YtginlknlkbhgaaaFClone
namespace Go.Proofs.Ytginlknlkbhgaaa
open Go.RowKit Go.Shelf Go.Maps

theorem rowRC : RowT 77 97 4 :=
  rowT_of (.agg #[.int .i64 0, .string ⟨#[]⟩, .string ⟨#[]⟩, .int .i64 0]) 48 Try.underlying77 (by kernel_rfl) (by decide) rfl (by decide)
theorem rc_one (x : Ch) : ∀ u ∈ rcCells x, u.oneCell' = true := by simp [rcCells, Value.oneCell']

/-- A whole row, nil or not, put behind an empty one of the call's own. -/
theorem RowR.copyAny {α : Type} {t E : TypeId} {k : Nat} {enc : α → List Value} {w W : World} {P : Nat → Prop} {v : Value} {l : List α} (hT : RowT t E k) (h : RowR E k enc w P v l) (hk : ∀ x, (enc x).length = k) (h1 : ∀ x, ∀ u ∈ enc x, u.oneCell' = true)
    (hl : l.length < 1073741824) (ty : TypeId) (hW : W = w.alloc (.cells #[] E)) :
    ∃ v' w', (Builtin.append_ #[t, t] ty #[.slice (some ⟨w.heap.size, 0, none⟩) 0 0, v]).run Try.prog W = .ok v' w' ∧ RowR E k enc w' (fun n => w.heap.size ≤ n) v' l ∧ Below w.heap.size w w' := by
  rcases h.1.2 with ⟨rfl, h0⟩ | ⟨g, cap, cur, rfl, _⟩
  · have hl0 : l = [] := List.eq_nil_of_length_eq_zero h0
    subst hl0
    obtain ⟨i, z, bytes, hi, hz, hs, hby, hzs, hb64⟩ := hT.info
    refine ⟨.slice (some ⟨w.heap.size, 0, none⟩) 0 0, W, ?_, ⟨?_, fun n hn => ?_⟩, ?_⟩
    · exact run_append_nothing W t t ty E i hT.under hi _ 0 0 (Nat.le_refl _) _ (Src.ofNil _ hT.under 0)
    · refine ⟨by simp, .inr ⟨w.heap.size, 0, #[], rfl, Nat.zero_le _, ?_, Nat.le_refl _, by simp [maxLen], by simp, by simp⟩⟩
      rw [hW]; exact World.alloc_heap_new w _
    · simp [Value.ownBlock] at hn; omega
    · rw [hW]; exact (Below.refl _ w).alloc (Nat.le_refl _) _
  · exact RowR.copy hT h hk h1 hl ty hW

/-- The tree's block. -/
def MC (w : World) (bm : Nat) (room clock : Int) (vL vS vC : Value) : Prop :=
  w.heap[bm]? = some (.cells #[.int .i64 room, .int .i64 clock, vL, vS, vC] 79 (0, 0))
section
variable {w w' : World} {bm : Nat} {room clock : Int} {vL vS vC : Value}
theorem MC.cell (h : MC w bm room clock vL vS vC) : w.cell? ⟨bm, 0, none⟩ = some (.int .i64 room) ∧ w.cell? ⟨bm, 1, none⟩ = some (.int .i64 clock) ∧ w.cell? ⟨bm, 2, none⟩ = some vL ∧ w.cell? ⟨bm, 3, none⟩ = some vS ∧ w.cell? ⟨bm, 4, none⟩ = some vC := by
  unfold MC at h
  refine ⟨?_, ?_, ?_, ?_, ?_⟩ <;> (rw [Lib.cell_of_heap h]; rfl)
theorem MC.frozen (h : MC w bm room clock vL vS vC) (j : Nat) : w.frozen? ⟨bm, j, none⟩ = false := Lib.frozen_of_heap h j
theorem MC.lt (h : MC w bm room clock vL vS vC) : bm < w.heap.size := (Array.getElem?_eq_some_iff.1 h).1
theorem MC.below {B : Nat} (h : MC w bm room clock vL vS vC) (hb : Below B w w') (hB : bm < B) : MC w' bm room clock vL vS vC := (hb.block bm hB).trans h
theorem MC.set1 (h : MC w bm room clock vL vS vC) (c : Int) : MC (w.setCell ⟨bm, 1, none⟩ (.int .i64 c)) bm room c vL vS vC := by
  unfold MC at h ⊢
  simp [World.setCell, Array.getElem?_modify, h]
theorem MC.set2 (h : MC w bm room clock vL vS vC) (v : Value) : MC (w.setCell ⟨bm, 2, none⟩ v) bm room clock v vS vC := by
  unfold MC at h ⊢
  simp [World.setCell, Array.getElem?_modify, h]
theorem MC.set3 (h : MC w bm room clock vL vS vC) (v : Value) : MC (w.setCell ⟨bm, 3, none⟩ v) bm room clock vL v vC := by
  unfold MC at h ⊢
  simp [World.setCell, Array.getElem?_modify, h]
theorem MC.set4 (h : MC w bm room clock vL vS vC) (v : Value) : MC (w.setCell ⟨bm, 4, none⟩ v) bm room clock vL vS v := by
  unfold MC at h ⊢
  simp [World.setCell, Array.getElem?_modify, h]
end

/-- The document's tree: its cells, its rows, of which none ever turns; all its blocks are of X. -/
structure RefP (w : World) (X : Nat → Prop) (bm : Nat) (room : Int) (S : St) (P : Nat → Prop) (vL vS vC : Value) : Prop where
  cells : MC w bm room S.clock vL vS vC
  now : RowF w P vL S.now
  last : RowF w P vS S.last
  row : RowR 97 4 rcCells w P vC S.pend
  xb : X bm
  sub : ∀ n, P n → X n ∧ n ≠ bm
  lt : ∀ n, X n → n < w.heap.size
def RefS (w : World) (X : Nat → Prop) (bm : Nat) (room : Int) (S : St) : Prop := ∃ P vL vS vC, RefP w X bm room S P vL vS vC
theorem RefP.kept {w w' : World} {X Z P : Nat → Prop} {bm : Nat} {room : Int} {S : St} {vL vS vC : Value} (h : RefP w X bm room S P vL vS vC) (hT : Turned Z w w') (hd : ∀ n, X n → ¬ Z n) : RefP w' X bm room S P vL vS vC :=
  ⟨hT.cells h.cells (hd bm h.xb), RowR.kept h.now hT (fun n hn => hd n (h.sub n hn).1), RowR.kept h.last hT (fun n hn => hd n (h.sub n hn).1), h.row.kept hT (fun n hn => hd n (h.sub n hn).1), h.xb, h.sub, fun n hn => Nat.lt_of_lt_of_le (h.lt n hn) hT.size⟩
theorem RefS.kept {w w' : World} {X Z : Nat → Prop} {bm : Nat} {room : Int} {S : St} (h : RefS w X bm room S) (hT : Turned Z w w') (hd : ∀ n, X n → ¬ Z n) : RefS w' X bm room S := by
  obtain ⟨P, vL, vS, vC, h1⟩ := h
  exact ⟨P, vL, vS, vC, h1.kept hT hd⟩
theorem RefS.below {w w' : World} {X : Nat → Prop} {bm : Nat} {room : Int} {S : St} (h : RefS w X bm room S) (hb : Below w.heap.size w w') : RefS w' X bm room S := h.kept (turned_below hb) (fun _ _ => id)
theorem RefP.below {w w' : World} {X P : Nat → Prop} {bm : Nat} {room : Int} {S : St} {vL vS vC : Value} (h : RefP w X bm room S P vL vS vC) (hb : Below w.heap.size w w') : RefP w' X bm room S P vL vS vC := h.kept (turned_below hb) (fun _ _ => id)
theorem RefS.lt {w : World} {X : Nat → Prop} {bm : Nat} {room : Int} {S : St} (h : RefS w X bm room S) : ∀ n, X n → n < w.heap.size := by
  obtain ⟨P, vL, vS, vC, h1⟩ := h
  exact h1.lt
def RStep (w : World) (X : Nat → Prop) (bm : Nat) (room : Int) (S : St) (w' : World) : Prop := ∃ X', RefS w' X' bm room S ∧ Turned X w w' ∧ ∀ n, X' n → X n ∨ w.heap.size ≤ n
theorem RStep.same {w w' : World} {X : Nat → Prop} {bm : Nat} {room : Int} {S : St} (h : RefS w X bm room S) (hb : Below w.heap.size w w') : RStep w X bm room S w' :=
  ⟨X, h.below hb, (turned_below hb).wider (fun _ h => h.elim), fun _ => .inl⟩
theorem RStep.behind {w w1 w' : World} {X : Nat → Prop} {bm : Nat} {room : Int} {S : St} (hb : Below w.heap.size w w1) (h : RStep w1 X bm room S w') : RStep w X bm room S w' := by
  obtain ⟨X', h1, h2, h3⟩ := h
  exact ⟨X', h1, ((turned_below hb).wider (fun _ h => h.elim)).trans h2, fun n hn => (h3 n hn).elim .inl (fun h => .inr (by have := hb.size; omega))⟩

/-- What a change asks of the document's tree: nothing of its path. -/
structure RFits (S : St) (c : Ch) : Prop where
  kind : c.kind ≤ 3
  arg : c.arg.length ≤ 1048576
  files : S.now.length < 1048576
  texts : ∀ y ∈ S.now, y.2.1.length ≤ 1073741824
  pends : S.pend.length < 536870912
  clock0 : 0 ≤ S.clock
  clock1 : S.clock < 4611686018427387904

theorem after_len (l : Fs) (c : Ch) : (after l c).length ≤ l.length + 1 := by
  have hp : ∀ x : BS × FD, ∀ m : Fs, (put x m).length ≤ m.length + 1 := fun x m => by unfold put; rw [ins_length]; have := drp_len x.1 m; omega
  unfold after
  split
  · exact hp _ _
  · split
    · exact hp _ _
    · split
      · have := drp_len c.path l; omega
      · cases look l c.path with
        | none => simp
        | some v => have h1 := hp (c.arg, v) (drp c.path l); have := drp_len c.path l; simp only; unfold put at *; rw [ins_length] at *; have := drp_len c.arg (drp c.path l); omega

set_option maxRecDepth 100000 in
set_option maxHeartbeats 2000000 in
theorem rchange_any (bm : Nat) (X : Nat → Prop) (room : Int) (S : St) (c : Ch) (kd : Int) (p s : ByteArray) (t : Int) (hch : rcCells c = [.int .i64 kd, .string p, .string s, .int .i64 t]) (w : World) (h : RefS w X bm room S) (hf : RFits S c) :
    Calls Try.prog 56 #[.pointer (some ⟨bm, 0, none⟩), .agg #[.int .i64 kd, .string p, .string s, .int .i64 t]] w fun r w' => r = .returned (.tuple #[]) ∧ RStep w X bm room (S.clock + 1, after S.now c, S.last, S.pend ++ [c]) w' := by
  obtain ⟨P, vL, vS, vC, hp⟩ := h
  obtain ⟨W1, hW1⟩ : ∃ W1, W1 = w.alloc (.cells #[.int .i64 kd, .string p, .string s, .int .i64 t] 97) := ⟨_, rfl⟩
  have hb1 : Below w.heap.size w W1 := by rw [hW1]; exact (Below.refl _ w).alloc (Nat.le_refl _) _
  have hs1 : W1.heap.size = w.heap.size + 1 := by rw [hW1]; simp
  have hx1 : W1.heap[w.heap.size]? = some (.cells #[.int .i64 kd, .string p, .string s, .int .i64 t] 97 (0, 0)) := by rw [hW1]; exact World.alloc_heap_new w _
  have hp1 := hp.below hb1
  have hbl : bm < w.heap.size := hp.lt _ hp.xb
  have HX : Hid (∀ wq, Below W1.heap.size W1 wq → wq.cell? ⟨w.heap.size, 0, none⟩ = some (.int .i64 kd) ∧ wq.cell? ⟨w.heap.size, 1, none⟩ = some (.string p) ∧ wq.cell? ⟨w.heap.size, 2, none⟩ = some (.string s) ∧ wq.cell? ⟨w.heap.size, 3, none⟩ = some (.int .i64 t) ∧ wq.cell? ⟨bm, 2, none⟩ = some vL) := by
    intro wq hb
    have hx := (hb.block _ (by omega)).trans hx1
    refine ⟨?_, ?_, ?_, ?_, (hp1.cells.below hb (by omega)).cell.2.2.1⟩ <;> (rw [Lib.cell_of_heap hx]; rfl)
  have HA : Hid (∀ wq, Below W1.heap.size W1 wq → Calls Try.prog 60 #[vL, .agg #[.int .i64 kd, .string p, .string s, .int .i64 t]] wq fun e w' => ∃ o n cc, e = .returned (.slice o n cc) ∧ RowF w' (fun n => P n ∨ w.heap.size ≤ n) (.slice o n cc) (after S.now c) ∧ Below W1.heap.size W1 w') := by
    intro wq hb
    have := after_any vL P S.now c wq (RowR.below hp1.now hb (Nat.le_refl _)) (by have := hf.files; omega) hf.kind (by have := hf.arg; omega) hf.texts
    rw [hch] at this
    refine this.mono ?_
    rintro e w' ⟨v', rfl, hr, hb'⟩
    have hq := hb.size
    obtain ⟨o, cc, rfl, _⟩ := hr.shape (fun _ => rfl)
    exact ⟨o, _, cc, rfl, hr.wider (fun n hn => hn.elim .inl (fun h => .inr (by omega))), hb.trans (hb'.mono hq)⟩
  have HK : Hid (∀ w3 o n cc, RowF w3 (fun n => P n ∨ w.heap.size ≤ n) (.slice o n cc) (after S.now c) → Below W1.heap.size W1 w3 →
      ∃ v4 w4 o5 n5 c5 w5, (Builtin.append_ #[77, 77] 77 #[.slice (some ⟨w3.heap.size, 0, none⟩) 0 0, vC]).run Try.prog (((w3.setCell ⟨bm, 2, none⟩ (.slice o n cc)).setCell ⟨bm, 1, none⟩ (.int .i64 (S.clock + 1))).alloc (.cells #[] 97)) = .ok v4 w4 ∧
        (((w3.setCell ⟨bm, 2, none⟩ (.slice o n cc)).setCell ⟨bm, 1, none⟩ (.int .i64 (S.clock + 1))).alloc (.cells #[] 97)).cell? ⟨bm, 4, none⟩ = some vC ∧
        w4.cell? ⟨w.heap.size, 0, none⟩ = some (.int .i64 kd) ∧ w4.cell? ⟨w.heap.size, 1, none⟩ = some (.string p) ∧ w4.cell? ⟨w.heap.size, 2, none⟩ = some (.string s) ∧ w4.cell? ⟨w.heap.size, 3, none⟩ = some (.int .i64 t) ∧
        (Builtin.append_ #[77, 77] 77 #[v4, .slice (some ⟨w4.heap.size, 0, none⟩) 1 1]).run Try.prog (w4.alloc (.cells #[.int .i64 kd, .string p, .string s, .int .i64 t] 97)) = .ok (.slice o5 n5 c5) w5 ∧
        w5.cell? ⟨bm, 4, none⟩ = some vC ∧ w5.frozen? ⟨bm, 4, none⟩ = false ∧ RStep w X bm room (S.clock + 1, after S.now c, S.last, S.pend ++ [c]) (w5.setCell ⟨bm, 4, none⟩ (.slice o5 n5 c5))) := by
    intro w3 o n cc hr hb
    have hp3 := hp1.kept (turned_below hb) (fun _ _ => id)
    have hx3 := (hb.block _ (by omega)).trans hx1
    have hbs := hb.size
    obtain ⟨W4, hW4⟩ : ∃ W4, W4 = (w3.setCell ⟨bm, 2, none⟩ (.slice o n cc)).setCell ⟨bm, 1, none⟩ (.int .i64 (S.clock + 1)) := ⟨_, rfl⟩
    have hT4 : Turned (fun n => n = bm) w3 W4 := by rw [hW4]; exact (Turned.setCell (X := fun n => n = bm) w3 ⟨bm, 2, none⟩ _ rfl).trans (Turned.setCell (X := fun n => n = bm) _ ⟨bm, 1, none⟩ _ rfl)
    have hC4 : MC W4 bm room (S.clock + 1) (.slice o n cc) vS vC := by rw [hW4]; exact (hp3.cells.set2 _).set1 _
    have hs4 := hT4.size
    have hPb : ∀ n, P n → ¬ n = bm := fun n hn => (hp.sub n hn).2
    have hPb' : ∀ n, (P n ∨ w.heap.size ≤ n) → ¬ n = bm := fun n hn hx => hn.elim (fun h => hPb n h hx) (fun h => by omega)
    have hL4 := RowR.kept hr hT4 hPb'
    have hS4 := RowR.kept hp3.last hT4 hPb
    have hV4 := hp3.row.kept hT4 hPb
    have hx4 := hT4.cells hx3 (by omega)
    rw [← hW4]
    obtain ⟨v4, w4, r1, r2, r3⟩ := RowR.copyAny (W := W4.alloc (.cells #[] 97)) rowRC hV4 (fun _ => rfl) rc_one (by have := hf.pends; omega) 77 rfl
    have hx5 := (r3.block _ (Array.getElem?_eq_some_iff.1 hx4).1).trans hx4
    have h56 : Turned (fun _ => False) w4 (w4.alloc (.cells (rcCells c).toArray 97)) := Turned.alloc _ _ _
    obtain ⟨v5, w5, q1, q2, q3, o5, c5, rfl⟩ := (r2.kept h56 (fun _ _ => id)).push rowRC c rfl (rc_one c) w4.heap.size 1 (0, 0) (World.alloc_heap_new w4 _) (by have := hf.pends; omega) 77
    have hb45 : Below W4.heap.size W4 w5 := r3.trans ((h56.wider (Y := fun n => W4.heap.size ≤ n) fun _ h => h.elim).trans q3 |>.below r3.size (fun n hn => hn))
    have hC5 := hC4.below hb45 (by omega)
    have hbm5 : ∀ n, n < W4.heap.size → ¬ n = bm → (w5.setCell ⟨bm, 4, none⟩ (.slice o5 (S.pend.length + 1) c5)).heap[n]? = W4.heap[n]? := fun n hn hne => (Below.heap_setCell _ _ _ _ hne).trans (hb45.block n hn)
    have hT5 : Turned (fun n => n = bm) W4 (w5.setCell ⟨bm, 4, none⟩ (.slice o5 (S.pend.length + 1) c5)) := ((turned_below hb45).wider fun _ h => h.elim).trans (Turned.setCell (X := fun n => n = bm) w5 ⟨bm, 4, none⟩ _ rfl)
    have hTT : Turned (fun n => n = bm) w (w5.setCell ⟨bm, 4, none⟩ (.slice o5 (S.pend.length + 1) c5)) := ((((turned_below hb1).wider fun _ h => h.elim).trans ((turned_below (hb.mono (Nat.le_refl _))).wider fun _ h => h.elim)).trans hT4).trans hT5
    have hR5 := q2.tight.kept (Turned.setCell (X := fun n => n = bm) w5 ⟨bm, 4, none⟩ (.slice o5 (S.pend.length + 1) c5) rfl) (fun n hn hx => by have := hp.lt _ hp.xb; have := hs4; rcases hn.1 with h | h <;> (try simp at h) <;> have := r3.size <;> omega)
    have hL5 := (RowR.tight hL4).kept hT5 (fun n hn => hPb' n hn.1)
    have hS5 := RowR.kept hS4 hT5 hPb
    have hsz5 := (Turned.setCell (X := fun n => n = bm) w5 ⟨bm, 4, none⟩ (.slice o5 (S.pend.length + 1) c5) rfl).size
    have hsz45 := hb45.size
    rw [hch] at q1
    rw [show W4.heap.size = w3.heap.size by rw [hW4]; simp] at r1
    refine ⟨v4, w4, o5, _, c5, w5, r1, (hC4.below ((Below.refl W4.heap.size W4).alloc (Nat.le_refl _) _) (by omega)).cell.2.2.2.2, ?_, ?_, ?_, ?_, q1, hC5.cell.2.2.2.2, hC5.frozen 4, fun n => X n ∨ (w.heap.size ≤ n ∧ n < w5.heap.size), ⟨fun n => P n ∨ (w.heap.size ≤ n ∧ n < w5.heap.size), _, _, _, ⟨hC5.set4 _, ?_, ?_, ?_, .inl hp.xb, ?_, ?_⟩⟩, hTT.wider (fun n hn => by rw [hn]; exact hp.xb), fun n hn => hn.elim .inl (fun h => .inr h.1)⟩
    · rw [Lib.cell_of_heap hx5]; rfl
    · rw [Lib.cell_of_heap hx5]; rfl
    · rw [Lib.cell_of_heap hx5]; rfl
    · rw [Lib.cell_of_heap hx5]; rfl
    · exact hL5.wider (fun n hn => hn.1.elim .inl (fun h => .inr ⟨h, by omega⟩))
    · exact RowR.wider hS5 (fun n hn => .inl hn)
    · exact hR5.wider (fun n hn => .inr ⟨by have := r3.size; rcases hn.1 with h | h <;> (try simp at h) <;> omega, hn.2⟩)
    · exact fun n hn => hn.elim (fun h => ⟨.inl (hp.sub n h).1, (hp.sub n h).2⟩) (fun h => ⟨.inr h, by omega⟩)
    · exact fun n hn => hn.elim (fun h => by have := hp.lt n h; omega) (fun h => by omega)
  have HC : Hid (∀ w3, Below W1.heap.size W1 w3 → w3.cell? ⟨bm, 1, none⟩ = some (.int .i64 S.clock) ∧ w3.cell? ⟨bm, 2, none⟩ = some vL ∧ w3.cell? ⟨bm, 4, none⟩ = some vC ∧ w3.frozen? ⟨bm, 1, none⟩ = false ∧ w3.frozen? ⟨bm, 2, none⟩ = false ∧ w3.frozen? ⟨bm, 4, none⟩ = false) := by
    intro w3 hb
    have hC := hp1.cells.below hb (by omega)
    exact ⟨hC.cell.2.1, hC.cell.2.2.1, hC.cell.2.2.2.2, hC.frozen 1, hC.frozen 2, hC.frozen 4⟩
  have hcl0 := hf.clock0
  have hcl1 := hf.clock1
  obtain ⟨cl, hcl⟩ : ∃ cl, cl = S.clock := ⟨_, rfl⟩
  rw [← hcl] at HC HK hcl0 hcl1 ⊢
  clear hcl
  have hb1d := below_drew (Below.refl W1.heap.size W1)
  obtain ⟨q0, q1, q2, q3, q4⟩ := HX.out _ hb1d
  have mixed := lays169.mixed
  clear hp hp1 hf hx1 hs1 hb1 hch
  subst hW1
  go_enter Try.func56, Try.ntmps56
  go_wp2
  go_region_with (first | (go_at_call 60; refine (HA.out _ (by assumption)).mono ?_; rintro r w3 ⟨o3, n3, c3, rfl, hr3, hb3⟩; obtain ⟨k0, k1, k2, k3, _⟩ := HX.out _ hb3; obtain ⟨j1, j2, j4, f1, f2, f4⟩ := HC.out _ hb3))
  all_goals (
    obtain ⟨v4, w4, o5, n5, c5, w5, r1, d9, d0, d1, d2, d3, r2, d4, d5, hQ⟩ := HK.out w3 o3 n3 c3 hr3 hb3
    have HQ := Lib.hid hQ
    clear hQ hr3 HK HA HX HC
    go_wp2_with (first
      | (at_builtin; refine wpList_append_eq rfl (.tmp 21) (.tmp 25) 77 rfl _ _ _ w4 rfl rfl r1 ?_)
      | (at_builtin; refine wpList_append_eq rfl (.tmp 27) (.tmp 29) 77 rfl _ _ _ w5 rfl rfl r2 ?_)
      | go_in)
    go_end0
    exact ⟨rfl, HQ.out⟩)

end Go.Proofs.Ytginlknlkbhgaaa
