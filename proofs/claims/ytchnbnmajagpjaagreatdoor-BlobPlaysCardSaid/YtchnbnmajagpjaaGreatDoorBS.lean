/-
  The document's own tree, as it keeps it; a change, done.
  What the document's Write and Append answer, and what they leave of its tree.
  What the document's tree answers, act for act, and what is left of it: on any tree that any acts made.
  What the document's Remove, Rename, Read, Sync, Used and New answer, and what is left of its tree.
  What the document's Crash leaves of its tree.
-/
import Derived.Deep.RegionHeld3
import Derived.Deep.Upon
import Derived.Deep.QuietTactic
import Derived.BigQuiet
import Derived.Test.YtchnbnmajagpjaaGreatDoorBR
import Derived.Test.YtchnbnmajagpjaaGreatDoorCH
import Derived.Test.YtchnbnmajagpjaaGreatDoorBA
namespace Go.Proofs.YtchnbnmajagpjaaGreatDoor
open Go.RowKit Go.Shelf Go.Maps

theorem rowRC : RowT 76 101 4 :=
  rowT_of (.agg #[.int .i64 0, .string ⟨#[]⟩, .string ⟨#[]⟩, .int .i64 0]) 48 Tryz.underlying76 (by kernel_rfl) (by decide) rfl (by decide)
theorem rc_one (x : Ch) : ∀ u ∈ rcCells x, u.oneCell' = true := by simp [rcCells, Value.oneCell']

/-- A whole row, nil or not, put behind an empty one of the call's own. -/
theorem RowR.copyAny {α : Type} {t E : TypeId} {k : Nat} {enc : α → List Value} {w W : World} {P : Nat → Prop} {v : Value} {l : List α} (hT : RowT t E k) (h : RowR E k enc w P v l) (hk : ∀ x, (enc x).length = k) (h1 : ∀ x, ∀ u ∈ enc x, u.oneCell' = true)
    (hl : l.length < 1073741824) (ty : TypeId) (hW : W = w.alloc (.cells #[] E)) :
    ∃ v' w', (Builtin.append_ #[t, t] ty #[.slice (some ⟨w.heap.size, 0, none⟩) 0 0, v]).run Tryz.prog W = .ok v' w' ∧ RowR E k enc w' (fun n => w.heap.size ≤ n) v' l ∧ Below w.heap.size w w' := by
  rcases h.1.2 with ⟨rfl, h0⟩ | ⟨g, cap, cur, rfl, _⟩
  · have hl0 : l = [] := List.eq_nil_of_length_eq_zero h0
    subst hl0
    obtain ⟨i, z, bytes, hi, hz, hs, hby, hzs, hb64⟩ := hT.info
    refine ⟨.slice (some ⟨w.heap.size, 0, none⟩) 0 0, W, ?_, ⟨?_, fun n hn => ?_⟩, ?_⟩
    · exact run_append_nothing W t t ty E i hT.under hi _ 0 0 (Nat.le_refl _) _ (Src.ofNil _ hT.under 0)
    · refine ⟨by simp, .inr ⟨w.heap.size, 0, #[], rfl, Nat.zero_le _, ?_, Nat.le_refl _, by simp [maxLen], by simp, by simp⟩⟩
      rw [hW]; exact World.alloc_heap_new w _
    · simp [Value.ownBlock] at hn; omega
    · rw [hW]; exact (Below.refl _ w).alloc (Nat.le_refl _) _
  · exact RowR.copy hT h hk h1 hl ty hW

/-- The tree's block. -/
def MC (w : World) (bm : Nat) (room clock : Int) (vL vS vC : Value) : Prop :=
  w.heap[bm]? = some (.cells #[.int .i64 room, .int .i64 clock, vL, vS, vC] 78 (0, 0))
section
variable {w w' : World} {bm : Nat} {room clock : Int} {vL vS vC : Value}
theorem MC.cell (h : MC w bm room clock vL vS vC) : w.cell? ⟨bm, 0, none⟩ = some (.int .i64 room) ∧ w.cell? ⟨bm, 1, none⟩ = some (.int .i64 clock) ∧ w.cell? ⟨bm, 2, none⟩ = some vL ∧ w.cell? ⟨bm, 3, none⟩ = some vS ∧ w.cell? ⟨bm, 4, none⟩ = some vC := by
  unfold MC at h
  refine ⟨?_, ?_, ?_, ?_, ?_⟩ <;> (rw [Lib.cell_of_heap h]; rfl)
theorem MC.frozen (h : MC w bm room clock vL vS vC) (j : Nat) : w.frozen? ⟨bm, j, none⟩ = false := Lib.frozen_of_heap h j
theorem MC.lt (h : MC w bm room clock vL vS vC) : bm < w.heap.size := (Array.getElem?_eq_some_iff.1 h).1
theorem MC.below {B : Nat} (h : MC w bm room clock vL vS vC) (hb : Below B w w') (hB : bm < B) : MC w' bm room clock vL vS vC := (hb.block bm hB).trans h
theorem MC.set1 (h : MC w bm room clock vL vS vC) (c : Int) : MC (w.setCell ⟨bm, 1, none⟩ (.int .i64 c)) bm room c vL vS vC := by
  unfold MC at h ⊢
  simp [World.setCell, Array.getElem?_modify, h]
theorem MC.set2 (h : MC w bm room clock vL vS vC) (v : Value) : MC (w.setCell ⟨bm, 2, none⟩ v) bm room clock v vS vC := by
  unfold MC at h ⊢
  simp [World.setCell, Array.getElem?_modify, h]
theorem MC.set3 (h : MC w bm room clock vL vS vC) (v : Value) : MC (w.setCell ⟨bm, 3, none⟩ v) bm room clock vL v vC := by
  unfold MC at h ⊢
  simp [World.setCell, Array.getElem?_modify, h]
theorem MC.set4 (h : MC w bm room clock vL vS vC) (v : Value) : MC (w.setCell ⟨bm, 4, none⟩ v) bm room clock vL vS v := by
  unfold MC at h ⊢
  simp [World.setCell, Array.getElem?_modify, h]
end

/-- The document's tree: its cells, its rows, of which none ever turns; all its blocks are of X. -/
structure RefP (w : World) (X : Nat → Prop) (bm : Nat) (room : Int) (S : St) (P : Nat → Prop) (vL vS vC : Value) : Prop where
  cells : MC w bm room S.clock vL vS vC
  now : RowF w P vL S.now
  last : RowF w P vS S.last
  row : RowR 101 4 rcCells w P vC S.pend
  xb : X bm
  sub : ∀ n, P n → X n ∧ n ≠ bm
  lt : ∀ n, X n → n < w.heap.size
def RefS (w : World) (X : Nat → Prop) (bm : Nat) (room : Int) (S : St) : Prop := ∃ P vL vS vC, RefP w X bm room S P vL vS vC
theorem RefP.kept {w w' : World} {X Z P : Nat → Prop} {bm : Nat} {room : Int} {S : St} {vL vS vC : Value} (h : RefP w X bm room S P vL vS vC) (hT : Turned Z w w') (hd : ∀ n, X n → ¬ Z n) : RefP w' X bm room S P vL vS vC :=
  ⟨hT.cells h.cells (hd bm h.xb), RowR.kept h.now hT (fun n hn => hd n (h.sub n hn).1), RowR.kept h.last hT (fun n hn => hd n (h.sub n hn).1), h.row.kept hT (fun n hn => hd n (h.sub n hn).1), h.xb, h.sub, fun n hn => Nat.lt_of_lt_of_le (h.lt n hn) hT.size⟩
theorem RefS.kept {w w' : World} {X Z : Nat → Prop} {bm : Nat} {room : Int} {S : St} (h : RefS w X bm room S) (hT : Turned Z w w') (hd : ∀ n, X n → ¬ Z n) : RefS w' X bm room S := by
  obtain ⟨P, vL, vS, vC, h1⟩ := h
  exact ⟨P, vL, vS, vC, h1.kept hT hd⟩
theorem RefS.below {w w' : World} {X : Nat → Prop} {bm : Nat} {room : Int} {S : St} (h : RefS w X bm room S) (hb : Below w.heap.size w w') : RefS w' X bm room S := h.kept (turned_below hb) (fun _ _ => id)
theorem RefP.below {w w' : World} {X P : Nat → Prop} {bm : Nat} {room : Int} {S : St} {vL vS vC : Value} (h : RefP w X bm room S P vL vS vC) (hb : Below w.heap.size w w') : RefP w' X bm room S P vL vS vC := h.kept (turned_below hb) (fun _ _ => id)
theorem RefS.lt {w : World} {X : Nat → Prop} {bm : Nat} {room : Int} {S : St} (h : RefS w X bm room S) : ∀ n, X n → n < w.heap.size := by
  obtain ⟨P, vL, vS, vC, h1⟩ := h
  exact h1.lt
def RStep (w : World) (X : Nat → Prop) (bm : Nat) (room : Int) (S : St) (w' : World) : Prop := ∃ X', RefS w' X' bm room S ∧ Turned X w w' ∧ ∀ n, X' n → X n ∨ w.heap.size ≤ n
theorem RStep.same {w w' : World} {X : Nat → Prop} {bm : Nat} {room : Int} {S : St} (h : RefS w X bm room S) (hb : Below w.heap.size w w') : RStep w X bm room S w' :=
  ⟨X, h.below hb, (turned_below hb).wider (fun _ h => h.elim), fun _ => .inl⟩
theorem RStep.behind {w w1 w' : World} {X : Nat → Prop} {bm : Nat} {room : Int} {S : St} (hb : Below w.heap.size w w1) (h : RStep w1 X bm room S w') : RStep w X bm room S w' := by
  obtain ⟨X', h1, h2, h3⟩ := h
  exact ⟨X', h1, ((turned_below hb).wider (fun _ h => h.elim)).trans h2, fun n hn => (h3 n hn).elim .inl (fun h => .inr (by have := hb.size; omega))⟩

/-- What a change asks of the document's tree: nothing of its path. -/
structure RFits (S : St) (c : Ch) : Prop where
  kind : c.kind ≤ 3
  arg : c.arg.length ≤ 1048576
  files : S.now.length < 1048576
  texts : ∀ y ∈ S.now, y.2.1.length ≤ 1073741824
  pends : S.pend.length < 536870912
  clock0 : 0 ≤ S.clock
  clock1 : S.clock < 4611686018427387904

theorem after_len (l : Fs) (c : Ch) : (after l c).length ≤ l.length + 1 := by
  have hp : ∀ x : BS × FD, ∀ m : Fs, (put x m).length ≤ m.length + 1 := fun x m => by unfold put; rw [ins_length]; have := drp_len x.1 m; omega
  unfold after
  split
  · exact hp _ _
  · split
    · exact hp _ _
    · split
      · have := drp_len c.path l; omega
      · cases look l c.path with
        | none => simp
        | some v => have h1 := hp (c.arg, v) (drp c.path l); have := drp_len c.path l; simp only; unfold put at *; rw [ins_length] at *; have := drp_len c.arg (drp c.path l); omega

set_option maxRecDepth 100000 in
set_option maxHeartbeats 2000000 in
theorem rchange_any (bm : Nat) (X : Nat → Prop) (room : Int) (S : St) (c : Ch) (kd : Int) (p s : ByteArray) (t : Int) (hch : rcCells c = [.int .i64 kd, .string p, .string s, .int .i64 t]) (w : World) (h : RefS w X bm room S) (hf : RFits S c) :
    Calls Tryz.prog 86 #[.pointer (some ⟨bm, 0, none⟩), .agg #[.int .i64 kd, .string p, .string s, .int .i64 t]] w fun r w' => r = .returned (.tuple #[]) ∧ RStep w X bm room (S.clock + 1, after S.now c, S.last, S.pend ++ [c]) w' := by
  obtain ⟨P, vL, vS, vC, hp⟩ := h
  obtain ⟨W1, hW1⟩ : ∃ W1, W1 = w.alloc (.cells #[.int .i64 kd, .string p, .string s, .int .i64 t] 101) := ⟨_, rfl⟩
  have hb1 : Below w.heap.size w W1 := by rw [hW1]; exact (Below.refl _ w).alloc (Nat.le_refl _) _
  have hs1 : W1.heap.size = w.heap.size + 1 := by rw [hW1]; simp
  have hx1 : W1.heap[w.heap.size]? = some (.cells #[.int .i64 kd, .string p, .string s, .int .i64 t] 101 (0, 0)) := by rw [hW1]; exact World.alloc_heap_new w _
  have hp1 := hp.below hb1
  have hbl : bm < w.heap.size := hp.lt _ hp.xb
  have HX : Hid (∀ wq, Below W1.heap.size W1 wq → wq.cell? ⟨w.heap.size, 0, none⟩ = some (.int .i64 kd) ∧ wq.cell? ⟨w.heap.size, 1, none⟩ = some (.string p) ∧ wq.cell? ⟨w.heap.size, 2, none⟩ = some (.string s) ∧ wq.cell? ⟨w.heap.size, 3, none⟩ = some (.int .i64 t) ∧ wq.cell? ⟨bm, 2, none⟩ = some vL) := by
    intro wq hb
    have hx := (hb.block _ (by omega)).trans hx1
    refine ⟨?_, ?_, ?_, ?_, (hp1.cells.below hb (by omega)).cell.2.2.1⟩ <;> (rw [Lib.cell_of_heap hx]; rfl)
  have HA : Hid (∀ wq, Below W1.heap.size W1 wq → Calls Tryz.prog 44 #[vL, .agg #[.int .i64 kd, .string p, .string s, .int .i64 t]] wq fun e w' => ∃ o n cc, e = .returned (.slice o n cc) ∧ RowF w' (fun n => P n ∨ w.heap.size ≤ n) (.slice o n cc) (after S.now c) ∧ Below W1.heap.size W1 w') := by
    intro wq hb
    have := after_any vL P S.now c wq (RowR.below hp1.now hb (Nat.le_refl _)) (by have := hf.files; omega) hf.kind (by have := hf.arg; omega) hf.texts
    rw [hch] at this
    refine this.mono ?_
    rintro e w' ⟨v', rfl, hr, hb'⟩
    have hq := hb.size
    obtain ⟨o, cc, rfl, _⟩ := hr.shape (fun _ => rfl)
    exact ⟨o, _, cc, rfl, hr.wider (fun n hn => hn.elim .inl (fun h => .inr (by omega))), hb.trans (hb'.mono hq)⟩
  have HK : Hid (∀ w3 o n cc, RowF w3 (fun n => P n ∨ w.heap.size ≤ n) (.slice o n cc) (after S.now c) → Below W1.heap.size W1 w3 →
      ∃ v4 w4 o5 n5 c5 w5, (Builtin.append_ #[76, 76] 76 #[.slice (some ⟨w3.heap.size, 0, none⟩) 0 0, vC]).run Tryz.prog (((w3.setCell ⟨bm, 2, none⟩ (.slice o n cc)).setCell ⟨bm, 1, none⟩ (.int .i64 (S.clock + 1))).alloc (.cells #[] 101)) = .ok v4 w4 ∧
        (((w3.setCell ⟨bm, 2, none⟩ (.slice o n cc)).setCell ⟨bm, 1, none⟩ (.int .i64 (S.clock + 1))).alloc (.cells #[] 101)).cell? ⟨bm, 4, none⟩ = some vC ∧
        w4.cell? ⟨w.heap.size, 0, none⟩ = some (.int .i64 kd) ∧ w4.cell? ⟨w.heap.size, 1, none⟩ = some (.string p) ∧ w4.cell? ⟨w.heap.size, 2, none⟩ = some (.string s) ∧ w4.cell? ⟨w.heap.size, 3, none⟩ = some (.int .i64 t) ∧
        (Builtin.append_ #[76, 76] 76 #[v4, .slice (some ⟨w4.heap.size, 0, none⟩) 1 1]).run Tryz.prog (w4.alloc (.cells #[.int .i64 kd, .string p, .string s, .int .i64 t] 101)) = .ok (.slice o5 n5 c5) w5 ∧
        w5.cell? ⟨bm, 4, none⟩ = some vC ∧ w5.frozen? ⟨bm, 4, none⟩ = false ∧ RStep w X bm room (S.clock + 1, after S.now c, S.last, S.pend ++ [c]) (w5.setCell ⟨bm, 4, none⟩ (.slice o5 n5 c5))) := by
    intro w3 o n cc hr hb
    have hp3 := hp1.kept (turned_below hb) (fun _ _ => id)
    have hx3 := (hb.block _ (by omega)).trans hx1
    have hbs := hb.size
    obtain ⟨W4, hW4⟩ : ∃ W4, W4 = (w3.setCell ⟨bm, 2, none⟩ (.slice o n cc)).setCell ⟨bm, 1, none⟩ (.int .i64 (S.clock + 1)) := ⟨_, rfl⟩
    have hT4 : Turned (fun n => n = bm) w3 W4 := by rw [hW4]; exact (Turned.setCell (X := fun n => n = bm) w3 ⟨bm, 2, none⟩ _ rfl).trans (Turned.setCell (X := fun n => n = bm) _ ⟨bm, 1, none⟩ _ rfl)
    have hC4 : MC W4 bm room (S.clock + 1) (.slice o n cc) vS vC := by rw [hW4]; exact (hp3.cells.set2 _).set1 _
    have hs4 := hT4.size
    have hPb : ∀ n, P n → ¬ n = bm := fun n hn => (hp.sub n hn).2
    have hPb' : ∀ n, (P n ∨ w.heap.size ≤ n) → ¬ n = bm := fun n hn hx => hn.elim (fun h => hPb n h hx) (fun h => by omega)
    have hL4 := RowR.kept hr hT4 hPb'
    have hS4 := RowR.kept hp3.last hT4 hPb
    have hV4 := hp3.row.kept hT4 hPb
    have hx4 := hT4.cells hx3 (by omega)
    rw [← hW4]
    obtain ⟨v4, w4, r1, r2, r3⟩ := RowR.copyAny (W := W4.alloc (.cells #[] 101)) rowRC hV4 (fun _ => rfl) rc_one (by have := hf.pends; omega) 76 rfl
    have hx5 := (r3.block _ (Array.getElem?_eq_some_iff.1 hx4).1).trans hx4
    have h56 : Turned (fun _ => False) w4 (w4.alloc (.cells (rcCells c).toArray 101)) := Turned.alloc _ _ _
    obtain ⟨v5, w5, q1, q2, q3, o5, c5, rfl⟩ := (r2.kept h56 (fun _ _ => id)).push rowRC c rfl (rc_one c) w4.heap.size 1 (0, 0) (World.alloc_heap_new w4 _) (by have := hf.pends; omega) 76
    have hb45 : Below W4.heap.size W4 w5 := r3.trans ((h56.wider (Y := fun n => W4.heap.size ≤ n) fun _ h => h.elim).trans q3 |>.below r3.size (fun n hn => hn))
    have hC5 := hC4.below hb45 (by omega)
    have hbm5 : ∀ n, n < W4.heap.size → ¬ n = bm → (w5.setCell ⟨bm, 4, none⟩ (.slice o5 (S.pend.length + 1) c5)).heap[n]? = W4.heap[n]? := fun n hn hne => (Below.heap_setCell _ _ _ _ hne).trans (hb45.block n hn)
    have hT5 : Turned (fun n => n = bm) W4 (w5.setCell ⟨bm, 4, none⟩ (.slice o5 (S.pend.length + 1) c5)) := ((turned_below hb45).wider fun _ h => h.elim).trans (Turned.setCell (X := fun n => n = bm) w5 ⟨bm, 4, none⟩ _ rfl)
    have hTT : Turned (fun n => n = bm) w (w5.setCell ⟨bm, 4, none⟩ (.slice o5 (S.pend.length + 1) c5)) := ((((turned_below hb1).wider fun _ h => h.elim).trans ((turned_below (hb.mono (Nat.le_refl _))).wider fun _ h => h.elim)).trans hT4).trans hT5
    have hR5 := q2.tight.kept (Turned.setCell (X := fun n => n = bm) w5 ⟨bm, 4, none⟩ (.slice o5 (S.pend.length + 1) c5) rfl) (fun n hn hx => by have := hp.lt _ hp.xb; have := hs4; rcases hn.1 with h | h <;> (try simp at h) <;> have := r3.size <;> omega)
    have hL5 := (RowR.tight hL4).kept hT5 (fun n hn => hPb' n hn.1)
    have hS5 := RowR.kept hS4 hT5 hPb
    have hsz5 := (Turned.setCell (X := fun n => n = bm) w5 ⟨bm, 4, none⟩ (.slice o5 (S.pend.length + 1) c5) rfl).size
    have hsz45 := hb45.size
    rw [hch] at q1
    rw [show W4.heap.size = w3.heap.size by rw [hW4]; simp] at r1
    refine ⟨v4, w4, o5, _, c5, w5, r1, (hC4.below ((Below.refl W4.heap.size W4).alloc (Nat.le_refl _) _) (by omega)).cell.2.2.2.2, ?_, ?_, ?_, ?_, q1, hC5.cell.2.2.2.2, hC5.frozen 4, fun n => X n ∨ (w.heap.size ≤ n ∧ n < w5.heap.size), ⟨fun n => P n ∨ (w.heap.size ≤ n ∧ n < w5.heap.size), _, _, _, ⟨hC5.set4 _, ?_, ?_, ?_, .inl hp.xb, ?_, ?_⟩⟩, hTT.wider (fun n hn => by rw [hn]; exact hp.xb), fun n hn => hn.elim .inl (fun h => .inr h.1)⟩
    · rw [Lib.cell_of_heap hx5]; rfl
    · rw [Lib.cell_of_heap hx5]; rfl
    · rw [Lib.cell_of_heap hx5]; rfl
    · rw [Lib.cell_of_heap hx5]; rfl
    · exact hL5.wider (fun n hn => hn.1.elim .inl (fun h => .inr ⟨h, by omega⟩))
    · exact RowR.wider hS5 (fun n hn => .inl hn)
    · exact hR5.wider (fun n hn => .inr ⟨by have := r3.size; rcases hn.1 with h | h <;> (try simp at h) <;> omega, hn.2⟩)
    · exact fun n hn => hn.elim (fun h => ⟨.inl (hp.sub n h).1, (hp.sub n h).2⟩) (fun h => ⟨.inr h, by omega⟩)
    · exact fun n hn => hn.elim (fun h => by have := hp.lt n h; omega) (fun h => by omega)
  have HC : Hid (∀ w3, Below W1.heap.size W1 w3 → w3.cell? ⟨bm, 1, none⟩ = some (.int .i64 S.clock) ∧ w3.cell? ⟨bm, 2, none⟩ = some vL ∧ w3.cell? ⟨bm, 4, none⟩ = some vC ∧ w3.frozen? ⟨bm, 1, none⟩ = false ∧ w3.frozen? ⟨bm, 2, none⟩ = false ∧ w3.frozen? ⟨bm, 4, none⟩ = false) := by
    intro w3 hb
    have hC := hp1.cells.below hb (by omega)
    exact ⟨hC.cell.2.1, hC.cell.2.2.1, hC.cell.2.2.2.2, hC.frozen 1, hC.frozen 2, hC.frozen 4⟩
  have hcl0 := hf.clock0
  have hcl1 := hf.clock1
  obtain ⟨cl, hcl⟩ : ∃ cl, cl = S.clock := ⟨_, rfl⟩
  rw [← hcl] at HC HK hcl0 hcl1 ⊢
  clear hcl
  have hb1d := below_drew (Below.refl W1.heap.size W1)
  obtain ⟨q0, q1, q2, q3, q4⟩ := HX.out _ hb1d
  have mixed := lays169.mixed
  clear hp hp1 hf hx1 hs1 hb1 hch
  subst hW1
  go_enter Tryz.func86, Tryz.ntmps86
  go_wp2
  go_region_with (first | (go_at_call 44; refine (HA.out _ (by assumption)).mono ?_; rintro r w3 ⟨o3, n3, c3, rfl, hr3, hb3⟩; obtain ⟨k0, k1, k2, k3, _⟩ := HX.out _ hb3; obtain ⟨j1, j2, j4, f1, f2, f4⟩ := HC.out _ hb3))
  all_goals (
    obtain ⟨v4, w4, o5, n5, c5, w5, r1, d9, d0, d1, d2, d3, r2, d4, d5, hQ⟩ := HK.out w3 o3 n3 c3 hr3 hb3
    have HQ := Lib.hid hQ
    clear hQ hr3 HK HA HX HC
    go_wp2_with (first
      | (at_builtin; refine wpList_append_eq rfl (.tmp 21) (.tmp 25) 76 rfl _ _ _ w4 rfl rfl r1 ?_)
      | (at_builtin; refine wpList_append_eq rfl (.tmp 27) (.tmp 29) 76 rfl _ _ _ w5 rfl rfl r2 ?_)
      | go_in)
    go_end0
    exact ⟨rfl, HQ.out⟩)

end Go.Proofs.YtchnbnmajagpjaaGreatDoor

namespace Go.Proofs.YtchnbnmajagpjaaGreatDoor
open Go.RowKit Go.Shelf Go.Maps

theorem rpath_b {p : ByteArray} {b : Bool} (h : pathB p.data.toList = b) (w : World) : Calls Tryz.prog 49 #[.string p] w fun e w' => e = .returned (.bool b) ∧ w = w' := by
  have := refPath_any p w
  rwa [h] at this

set_option maxRecDepth 100000 in
set_option maxHeartbeats 1000000 in
theorem rwrite_arg (bm : Nat) (k : Int) (p s : ByteArray) (w : World) (h : pathB p.data.toList = false) :
    Calls Tryz.prog 81 #[.pointer (some ⟨bm, 0, none⟩), .int .i64 k, .string p, .string s] w fun r w' => r = .returned (.int .i64 1) ∧ w = w' := by
  have HP := Lib.hid (rpath_b h w)
  clear h
  go_enter Tryz.func81, Tryz.ntmps81
  go_wp2_with (go_at_call 49; refine (HP.out).mono ?_; rintro e w1 ⟨rfl, rfl⟩)
  go_ret
  exact ⟨rfl, rfl⟩

/-- What Write finds at a bad end, or 0. -/
def rwC (room : Int) (now l' : Fs) (p nt : BS) : Int :=
  if 16777216 < nt.length then 3 else if blocked now p = true then 5 else if room < (used l' : Int) then 6 else if 200 < l'.length then 6 else 0

set_option maxRecDepth 100000 in
set_option maxHeartbeats 2000000 in
theorem rwrite_long (bm : Nat) (X : Nat → Prop) (k : Nat) (p s nt : ByteArray) (room : Int) (S : St) (w : World) (h : RefS w X bm room S) (hf : RFits S (k, p.data.toList, s.data.toList, S.clock + 1)) (hk : k ≤ 1) (hpb : pathB p.data.toList = true) (hpl : ∀ y ∈ S.now, y.1.length ≤ 1048576) (hps : p.size ≤ maxLen) (hu : used (after S.now (k, p.data.toList, s.data.toList, S.clock + 1)) < 4611686018427387904)
    (hnt : look (after S.now (k, p.data.toList, s.data.toList, S.clock + 1)) p.data.toList = some (nt.data.toList, S.clock + 1)) (e1 : 16777216 < nt.size) :
    Calls Tryz.prog 81 #[.pointer (some ⟨bm, 0, none⟩), .int .i64 (k + 1 : Nat), .string p, .string s] w fun r w' => r = .returned (.int .i64 3) ∧ RStep w X bm room S w' := by
  have hch : rcCells (k, p.data.toList, s.data.toList, S.clock + 1) = [.int .i64 (k + 1 : Nat), .string p, .string s, .int .i64 (S.clock + 1)] := by
    unfold rcCells
    simp only [Ch.kind, Ch.path, Ch.arg, Ch.time]
    rw [txt_toList, txt_toList, if_pos hk]
  have HCh : Hid (∀ w1, Below w.heap.size w w1 → Calls Tryz.prog 86 #[.pointer (some ⟨bm, 0, none⟩), .agg #[.int .i64 (k + 1 : Nat), .string p, .string s, .int .i64 (S.clock + 1)]] w1 fun r w' => r = .returned (.tuple #[]) ∧ RStep w X bm room (doSt S k p.data.toList s.data.toList) w') := by
    intro w1 hb
    exact (rchange_any bm X room S _ _ p s _ hch w1 (h.below hb) hf).mono (fun r w' hr => ⟨hr.1, RStep.behind hb hr.2⟩)
  have HS : Hid (∀ w', Below w.heap.size w w' → RStep w X bm room S w') := fun w' hb => RStep.same h hb
  obtain ⟨P, vL, vS, vC, hp⟩ := h
  obtain ⟨W1, hW1⟩ : ∃ W1, W1 = w.alloc (.cells #[.int .i64 (k + 1 : Nat), .string p, .string s, .int .i64 (S.clock + 1)] 101) := ⟨_, rfl⟩
  have hb1 : Below w.heap.size w W1 := by rw [hW1]; exact (Below.refl _ w).alloc (Nat.le_refl _) _
  have hs1 : W1.heap.size = w.heap.size + 1 := by rw [hW1]; simp
  have hx1 : W1.heap[w.heap.size]? = some (.cells #[.int .i64 (k + 1 : Nat), .string p, .string s, .int .i64 (S.clock + 1)] 101 (0, 0)) := by rw [hW1]; exact World.alloc_heap_new w _
  have hp1 := hp.below hb1
  have hbl : bm < w.heap.size := hp.lt _ hp.xb
  have HX : Hid (∀ wq, Below W1.heap.size W1 wq → wq.cell? ⟨w.heap.size, 0, none⟩ = some (.int .i64 (k + 1 : Nat)) ∧ wq.cell? ⟨w.heap.size, 1, none⟩ = some (.string p) ∧ wq.cell? ⟨w.heap.size, 2, none⟩ = some (.string s) ∧ wq.cell? ⟨w.heap.size, 3, none⟩ = some (.int .i64 (S.clock + 1)) ∧ wq.cell? ⟨bm, 2, none⟩ = some vL ∧ wq.cell? ⟨bm, 0, none⟩ = some (.int .i64 room)) := by
    intro wq hb
    have hx := (hb.block _ (by omega)).trans hx1
    refine ⟨?_, ?_, ?_, ?_, (hp1.cells.below hb (by omega)).cell.2.2.1, (hp1.cells.below hb (by omega)).cell.1⟩ <;> (rw [Lib.cell_of_heap hx]; rfl)
  obtain ⟨L', hL'⟩ : ∃ L', L' = after S.now (k, p.data.toList, s.data.toList, S.clock + 1) := ⟨_, rfl⟩
  have hll := after_len S.now (k, p.data.toList, s.data.toList, S.clock + 1)
  rw [← hL'] at hnt hu hll
  have hfl := hf.files
  have hln : L'.length < 1073741824 := by omega
  have HA : Hid (∀ wq, Below W1.heap.size W1 wq → Calls Tryz.prog 44 #[vL, .agg #[.int .i64 (k + 1 : Nat), .string p, .string s, .int .i64 (S.clock + 1)]] wq fun e w' => ∃ g cc, e = .returned (.slice (some ⟨g, 0, none⟩) L'.length cc) ∧ Below W1.heap.size W1 w' ∧ RowC w' g L' ∧ Hid (∃ P', RowF w' P' (.slice (some ⟨g, 0, none⟩) L'.length cc) L')) := by
    intro wq hb
    have := after_any vL P S.now _ wq (RowR.below hp1.now hb (Nat.le_refl _)) (by omega) hf.kind (by have := hf.arg; omega) hf.texts
    rw [hch, ← hL'] at this
    refine this.mono ?_
    rintro e w' ⟨v', rfl, hr, hb'⟩
    rcases RowR.cells hr with ⟨hl0, _⟩ | ⟨g, cc, hv, _, hg, hc⟩
    · rw [hl0] at hnt; cases hnt
    · subst hv
      exact ⟨g, cc, rfl, hb.trans (hb'.mono hb.size), hc, ⟨_, hr⟩⟩
  have HF : Hid (∀ w3 g cc, Hid (∃ P', RowF w3 P' (.slice (some ⟨g, 0, none⟩) L'.length cc) L') → RowC w3 g L' → Calls Tryz.prog 66 #[.slice (some ⟨g, 0, none⟩) L'.length cc, .string p] w3 fun e w' => ∃ j : Nat, e = .returned (.int .i64 j) ∧ w3.cell? ⟨g, j * 3 + 1, none⟩ = some (.string nt) ∧ j < L'.length ∧ w3 = w') := by
    intro w3 g cc hr hc
    obtain ⟨P', hr⟩ := hr.out
    refine (find_hit _ P' L' p w3 hr hln hnt).mono ?_
    rintro e w' ⟨j, rfl, hj, rfl⟩
    have h1 := (hc j _ hj).2.1
    rw [txt_toList] at h1
    exact ⟨j, rfl, h1, (List.getElem?_eq_some_iff.1 hj).1, rfl⟩
  have HB : Hid (∀ w3, Below W1.heap.size W1 w3 → Calls Tryz.prog 89 #[vL, .string p] w3 fun e w' => e = .returned (.bool (blocked S.now p.data.toList)) ∧ w3 = w') := fun w3 hb =>
    rblk_any vL P S.now p w3 (RowR.below hp1.now hb (Nat.le_refl _)) (by omega) hps hpl
  have HU : Hid (∀ w3 g cc, Hid (∃ P', RowF w3 P' (.slice (some ⟨g, 0, none⟩) L'.length cc) L') → Calls Tryz.prog 63 #[.slice (some ⟨g, 0, none⟩) L'.length cc] w3 fun e w' => e = .returned (.int .i64 (used L' : Nat)) ∧ w3 = w') := by
    intro w3 g cc hr
    obtain ⟨P', hr⟩ := hr.out
    exact rused_any _ P' L' w3 hr hln hu
  have HP := Lib.hid (rpath_b hpb w)
  have c1 := hp.cells.cell.2.1
  have hcl0 := hf.clock0
  have hcl1 := hf.clock1
  have HB1 := Lib.hid hb1
  have hsz : W1.heap.size = w.heap.size + 1 := hs1
  have e1' : (16777216 : Int) < (nt.size : Int) := by omega
  obtain ⟨cl, hcl⟩ : ∃ cl, cl = S.clock := ⟨_, rfl⟩
  obtain ⟨U, hU⟩ : ∃ U, U = used L' := ⟨_, rfl⟩
  obtain ⟨kd, hkd⟩ : ∃ kd : Int, kd = ((k + 1 : Nat) : Int) := ⟨_, rfl⟩
  rw [← hcl] at hW1 HCh HX HA c1 hcl0 hcl1
  rw [← hkd] at hW1 HCh HX HA
  rw [← hkd]
  rw [← hU] at HU
  have hb1d := below_drew (Below.refl W1.heap.size W1)
  obtain ⟨q0, q1, q2, q3, q4, _⟩ := HX.out _ hb1d
  have mixed := lays169.mixed
  have HL := Lib.hid hL'
  clear hp hp1 hf hx1 hs1 hb1 hch hL' hll hfl hnt hu hcl hU hkd hpb hpl hps hk
  subst hW1
  go_enter Tryz.func81, Tryz.ntmps81
  go_wp2_with (go_at_call 49; refine (HP.out).mono ?_; rintro e w1 ⟨rfl, rfl⟩)
  go_region_held3 (fun w' => w'.cell? ⟨w.heap.size, 0, none⟩ = some (.int .i64 kd) ∧ w'.cell? ⟨w.heap.size, 1, none⟩ = some (.string p) ∧ w'.cell? ⟨w.heap.size, 2, none⟩ = some (.string s) ∧ w'.cell? ⟨w.heap.size, 3, none⟩ = some (.int .i64 (cl + 1)) ∧ w'.cell? ⟨bm, 2, none⟩ = some vL)
    (first | exact ⟨by assumption, by assumption, by assumption, by assumption, by assumption⟩)
    (first | (go_at_call 44; refine (HA.out _ (by assumption)).mono ?_; rintro r w3 ⟨g, cc, rfl, hb3, hc3, HR3⟩; obtain ⟨k0, k1, k2, k3, k4, k5⟩ := HX.out _ hb3))
  clear HA q0 q1 q2 q3 q4 HP c1
  go_wp2_with (first
    | (go_at_call 66; refine (HF.out _ _ _ HR3 hc3).mono ?_; rintro e w4 ⟨j, rfl, hj, hjl, rfl⟩; have hi0 : ¬ ((j : Int) < 0) := (by omega); have hi1 : (0 : Int) ≤ (j : Int) := (by omega); have hi2 : (j : Int) < (L'.length : Int) := (by omega))
    | (go_at_call 89; refine (HB.out _ (by assumption)).mono ?_; rintro e w4 ⟨rfl, rfl⟩))
  go_ret
  exact ⟨rfl, HS.out _ (HB1.out.trans (hb3.mono (by omega)))⟩

set_option maxRecDepth 100000 in
set_option maxHeartbeats 2000000 in
theorem rwrite_there (bm : Nat) (X : Nat → Prop) (k : Nat) (p s nt : ByteArray) (room : Int) (S : St) (w : World) (h : RefS w X bm room S) (hf : RFits S (k, p.data.toList, s.data.toList, S.clock + 1)) (hk : k ≤ 1) (hpb : pathB p.data.toList = true) (hpl : ∀ y ∈ S.now, y.1.length ≤ 1048576) (hps : p.size ≤ maxLen) (hu : used (after S.now (k, p.data.toList, s.data.toList, S.clock + 1)) < 4611686018427387904)
    (hnt : look (after S.now (k, p.data.toList, s.data.toList, S.clock + 1)) p.data.toList = some (nt.data.toList, S.clock + 1)) (e1 : ¬ 16777216 < nt.size) (e2 : blocked S.now p.data.toList = true) :
    Calls Tryz.prog 81 #[.pointer (some ⟨bm, 0, none⟩), .int .i64 (k + 1 : Nat), .string p, .string s] w fun r w' => r = .returned (.int .i64 5) ∧ RStep w X bm room S w' := by
  have hch : rcCells (k, p.data.toList, s.data.toList, S.clock + 1) = [.int .i64 (k + 1 : Nat), .string p, .string s, .int .i64 (S.clock + 1)] := by
    unfold rcCells
    simp only [Ch.kind, Ch.path, Ch.arg, Ch.time]
    rw [txt_toList, txt_toList, if_pos hk]
  have HCh : Hid (∀ w1, Below w.heap.size w w1 → Calls Tryz.prog 86 #[.pointer (some ⟨bm, 0, none⟩), .agg #[.int .i64 (k + 1 : Nat), .string p, .string s, .int .i64 (S.clock + 1)]] w1 fun r w' => r = .returned (.tuple #[]) ∧ RStep w X bm room (doSt S k p.data.toList s.data.toList) w') := by
    intro w1 hb
    exact (rchange_any bm X room S _ _ p s _ hch w1 (h.below hb) hf).mono (fun r w' hr => ⟨hr.1, RStep.behind hb hr.2⟩)
  have HS : Hid (∀ w', Below w.heap.size w w' → RStep w X bm room S w') := fun w' hb => RStep.same h hb
  obtain ⟨P, vL, vS, vC, hp⟩ := h
  obtain ⟨W1, hW1⟩ : ∃ W1, W1 = w.alloc (.cells #[.int .i64 (k + 1 : Nat), .string p, .string s, .int .i64 (S.clock + 1)] 101) := ⟨_, rfl⟩
  have hb1 : Below w.heap.size w W1 := by rw [hW1]; exact (Below.refl _ w).alloc (Nat.le_refl _) _
  have hs1 : W1.heap.size = w.heap.size + 1 := by rw [hW1]; simp
  have hx1 : W1.heap[w.heap.size]? = some (.cells #[.int .i64 (k + 1 : Nat), .string p, .string s, .int .i64 (S.clock + 1)] 101 (0, 0)) := by rw [hW1]; exact World.alloc_heap_new w _
  have hp1 := hp.below hb1
  have hbl : bm < w.heap.size := hp.lt _ hp.xb
  have HX : Hid (∀ wq, Below W1.heap.size W1 wq → wq.cell? ⟨w.heap.size, 0, none⟩ = some (.int .i64 (k + 1 : Nat)) ∧ wq.cell? ⟨w.heap.size, 1, none⟩ = some (.string p) ∧ wq.cell? ⟨w.heap.size, 2, none⟩ = some (.string s) ∧ wq.cell? ⟨w.heap.size, 3, none⟩ = some (.int .i64 (S.clock + 1)) ∧ wq.cell? ⟨bm, 2, none⟩ = some vL ∧ wq.cell? ⟨bm, 0, none⟩ = some (.int .i64 room)) := by
    intro wq hb
    have hx := (hb.block _ (by omega)).trans hx1
    refine ⟨?_, ?_, ?_, ?_, (hp1.cells.below hb (by omega)).cell.2.2.1, (hp1.cells.below hb (by omega)).cell.1⟩ <;> (rw [Lib.cell_of_heap hx]; rfl)
  obtain ⟨L', hL'⟩ : ∃ L', L' = after S.now (k, p.data.toList, s.data.toList, S.clock + 1) := ⟨_, rfl⟩
  have hll := after_len S.now (k, p.data.toList, s.data.toList, S.clock + 1)
  rw [← hL'] at hnt hu hll
  have hfl := hf.files
  have hln : L'.length < 1073741824 := by omega
  have HA : Hid (∀ wq, Below W1.heap.size W1 wq → Calls Tryz.prog 44 #[vL, .agg #[.int .i64 (k + 1 : Nat), .string p, .string s, .int .i64 (S.clock + 1)]] wq fun e w' => ∃ g cc, e = .returned (.slice (some ⟨g, 0, none⟩) L'.length cc) ∧ Below W1.heap.size W1 w' ∧ RowC w' g L' ∧ Hid (∃ P', RowF w' P' (.slice (some ⟨g, 0, none⟩) L'.length cc) L')) := by
    intro wq hb
    have := after_any vL P S.now _ wq (RowR.below hp1.now hb (Nat.le_refl _)) (by omega) hf.kind (by have := hf.arg; omega) hf.texts
    rw [hch, ← hL'] at this
    refine this.mono ?_
    rintro e w' ⟨v', rfl, hr, hb'⟩
    rcases RowR.cells hr with ⟨hl0, _⟩ | ⟨g, cc, hv, _, hg, hc⟩
    · rw [hl0] at hnt; cases hnt
    · subst hv
      exact ⟨g, cc, rfl, hb.trans (hb'.mono hb.size), hc, ⟨_, hr⟩⟩
  have HF : Hid (∀ w3 g cc, Hid (∃ P', RowF w3 P' (.slice (some ⟨g, 0, none⟩) L'.length cc) L') → RowC w3 g L' → Calls Tryz.prog 66 #[.slice (some ⟨g, 0, none⟩) L'.length cc, .string p] w3 fun e w' => ∃ j : Nat, e = .returned (.int .i64 j) ∧ w3.cell? ⟨g, j * 3 + 1, none⟩ = some (.string nt) ∧ j < L'.length ∧ w3 = w') := by
    intro w3 g cc hr hc
    obtain ⟨P', hr⟩ := hr.out
    refine (find_hit _ P' L' p w3 hr hln hnt).mono ?_
    rintro e w' ⟨j, rfl, hj, rfl⟩
    have h1 := (hc j _ hj).2.1
    rw [txt_toList] at h1
    exact ⟨j, rfl, h1, (List.getElem?_eq_some_iff.1 hj).1, rfl⟩
  have HB : Hid (∀ w3, Below W1.heap.size W1 w3 → Calls Tryz.prog 89 #[vL, .string p] w3 fun e w' => e = .returned (.bool (blocked S.now p.data.toList)) ∧ w3 = w') := fun w3 hb =>
    rblk_any vL P S.now p w3 (RowR.below hp1.now hb (Nat.le_refl _)) (by omega) hps hpl
  have HU : Hid (∀ w3 g cc, Hid (∃ P', RowF w3 P' (.slice (some ⟨g, 0, none⟩) L'.length cc) L') → Calls Tryz.prog 63 #[.slice (some ⟨g, 0, none⟩) L'.length cc] w3 fun e w' => e = .returned (.int .i64 (used L' : Nat)) ∧ w3 = w') := by
    intro w3 g cc hr
    obtain ⟨P', hr⟩ := hr.out
    exact rused_any _ P' L' w3 hr hln hu
  rw [e2] at HB
  have HP := Lib.hid (rpath_b hpb w)
  have c1 := hp.cells.cell.2.1
  have hcl0 := hf.clock0
  have hcl1 := hf.clock1
  have HB1 := Lib.hid hb1
  have hsz : W1.heap.size = w.heap.size + 1 := hs1
  have e1' : ¬ (16777216 : Int) < (nt.size : Int) := by omega
  obtain ⟨cl, hcl⟩ : ∃ cl, cl = S.clock := ⟨_, rfl⟩
  obtain ⟨U, hU⟩ : ∃ U, U = used L' := ⟨_, rfl⟩
  obtain ⟨kd, hkd⟩ : ∃ kd : Int, kd = ((k + 1 : Nat) : Int) := ⟨_, rfl⟩
  rw [← hcl] at hW1 HCh HX HA c1 hcl0 hcl1
  rw [← hkd] at hW1 HCh HX HA
  rw [← hkd]
  rw [← hU] at HU
  have hb1d := below_drew (Below.refl W1.heap.size W1)
  obtain ⟨q0, q1, q2, q3, q4, _⟩ := HX.out _ hb1d
  have mixed := lays169.mixed
  have HL := Lib.hid hL'
  clear hp hp1 hf hx1 hs1 hb1 hch hL' hll hfl hnt hu hcl hU hkd hpb hpl hps hk e2
  subst hW1
  go_enter Tryz.func81, Tryz.ntmps81
  go_wp2_with (go_at_call 49; refine (HP.out).mono ?_; rintro e w1 ⟨rfl, rfl⟩)
  go_region_held3 (fun w' => w'.cell? ⟨w.heap.size, 0, none⟩ = some (.int .i64 kd) ∧ w'.cell? ⟨w.heap.size, 1, none⟩ = some (.string p) ∧ w'.cell? ⟨w.heap.size, 2, none⟩ = some (.string s) ∧ w'.cell? ⟨w.heap.size, 3, none⟩ = some (.int .i64 (cl + 1)) ∧ w'.cell? ⟨bm, 2, none⟩ = some vL)
    (first | exact ⟨by assumption, by assumption, by assumption, by assumption, by assumption⟩)
    (first | (go_at_call 44; refine (HA.out _ (by assumption)).mono ?_; rintro r w3 ⟨g, cc, rfl, hb3, hc3, HR3⟩; obtain ⟨k0, k1, k2, k3, k4, k5⟩ := HX.out _ hb3))
  clear HA q0 q1 q2 q3 q4 HP c1
  go_wp2_with (first
    | (go_at_call 66; refine (HF.out _ _ _ HR3 hc3).mono ?_; rintro e w4 ⟨j, rfl, hj, hjl, rfl⟩; have hi0 : ¬ ((j : Int) < 0) := (by omega); have hi1 : (0 : Int) ≤ (j : Int) := (by omega); have hi2 : (j : Int) < (L'.length : Int) := (by omega))
    | (go_at_call 89; refine (HB.out _ (by assumption)).mono ?_; rintro e w4 ⟨rfl, rfl⟩))
  go_ret
  exact ⟨rfl, HS.out _ (HB1.out.trans (hb3.mono (by omega)))⟩

set_option maxRecDepth 100000 in
set_option maxHeartbeats 2000000 in
theorem rwrite_full1 (bm : Nat) (X : Nat → Prop) (k : Nat) (p s nt : ByteArray) (room : Int) (S : St) (w : World) (h : RefS w X bm room S) (hf : RFits S (k, p.data.toList, s.data.toList, S.clock + 1)) (hk : k ≤ 1) (hpb : pathB p.data.toList = true) (hpl : ∀ y ∈ S.now, y.1.length ≤ 1048576) (hps : p.size ≤ maxLen) (hu : used (after S.now (k, p.data.toList, s.data.toList, S.clock + 1)) < 4611686018427387904)
    (hnt : look (after S.now (k, p.data.toList, s.data.toList, S.clock + 1)) p.data.toList = some (nt.data.toList, S.clock + 1)) (e1 : ¬ 16777216 < nt.size) (e2 : blocked S.now p.data.toList = false) (e3 : room < (used (after S.now (k, p.data.toList, s.data.toList, S.clock + 1)) : Int)) :
    Calls Tryz.prog 81 #[.pointer (some ⟨bm, 0, none⟩), .int .i64 (k + 1 : Nat), .string p, .string s] w fun r w' => r = .returned (.int .i64 6) ∧ RStep w X bm room S w' := by
  have hch : rcCells (k, p.data.toList, s.data.toList, S.clock + 1) = [.int .i64 (k + 1 : Nat), .string p, .string s, .int .i64 (S.clock + 1)] := by
    unfold rcCells
    simp only [Ch.kind, Ch.path, Ch.arg, Ch.time]
    rw [txt_toList, txt_toList, if_pos hk]
  have HCh : Hid (∀ w1, Below w.heap.size w w1 → Calls Tryz.prog 86 #[.pointer (some ⟨bm, 0, none⟩), .agg #[.int .i64 (k + 1 : Nat), .string p, .string s, .int .i64 (S.clock + 1)]] w1 fun r w' => r = .returned (.tuple #[]) ∧ RStep w X bm room (doSt S k p.data.toList s.data.toList) w') := by
    intro w1 hb
    exact (rchange_any bm X room S _ _ p s _ hch w1 (h.below hb) hf).mono (fun r w' hr => ⟨hr.1, RStep.behind hb hr.2⟩)
  have HS : Hid (∀ w', Below w.heap.size w w' → RStep w X bm room S w') := fun w' hb => RStep.same h hb
  obtain ⟨P, vL, vS, vC, hp⟩ := h
  obtain ⟨W1, hW1⟩ : ∃ W1, W1 = w.alloc (.cells #[.int .i64 (k + 1 : Nat), .string p, .string s, .int .i64 (S.clock + 1)] 101) := ⟨_, rfl⟩
  have hb1 : Below w.heap.size w W1 := by rw [hW1]; exact (Below.refl _ w).alloc (Nat.le_refl _) _
  have hs1 : W1.heap.size = w.heap.size + 1 := by rw [hW1]; simp
  have hx1 : W1.heap[w.heap.size]? = some (.cells #[.int .i64 (k + 1 : Nat), .string p, .string s, .int .i64 (S.clock + 1)] 101 (0, 0)) := by rw [hW1]; exact World.alloc_heap_new w _
  have hp1 := hp.below hb1
  have hbl : bm < w.heap.size := hp.lt _ hp.xb
  have HX : Hid (∀ wq, Below W1.heap.size W1 wq → wq.cell? ⟨w.heap.size, 0, none⟩ = some (.int .i64 (k + 1 : Nat)) ∧ wq.cell? ⟨w.heap.size, 1, none⟩ = some (.string p) ∧ wq.cell? ⟨w.heap.size, 2, none⟩ = some (.string s) ∧ wq.cell? ⟨w.heap.size, 3, none⟩ = some (.int .i64 (S.clock + 1)) ∧ wq.cell? ⟨bm, 2, none⟩ = some vL ∧ wq.cell? ⟨bm, 0, none⟩ = some (.int .i64 room)) := by
    intro wq hb
    have hx := (hb.block _ (by omega)).trans hx1
    refine ⟨?_, ?_, ?_, ?_, (hp1.cells.below hb (by omega)).cell.2.2.1, (hp1.cells.below hb (by omega)).cell.1⟩ <;> (rw [Lib.cell_of_heap hx]; rfl)
  obtain ⟨L', hL'⟩ : ∃ L', L' = after S.now (k, p.data.toList, s.data.toList, S.clock + 1) := ⟨_, rfl⟩
  have hll := after_len S.now (k, p.data.toList, s.data.toList, S.clock + 1)
  rw [← hL'] at hnt hu hll e3
  have hfl := hf.files
  have hln : L'.length < 1073741824 := by omega
  have HA : Hid (∀ wq, Below W1.heap.size W1 wq → Calls Tryz.prog 44 #[vL, .agg #[.int .i64 (k + 1 : Nat), .string p, .string s, .int .i64 (S.clock + 1)]] wq fun e w' => ∃ g cc, e = .returned (.slice (some ⟨g, 0, none⟩) L'.length cc) ∧ Below W1.heap.size W1 w' ∧ RowC w' g L' ∧ Hid (∃ P', RowF w' P' (.slice (some ⟨g, 0, none⟩) L'.length cc) L')) := by
    intro wq hb
    have := after_any vL P S.now _ wq (RowR.below hp1.now hb (Nat.le_refl _)) (by omega) hf.kind (by have := hf.arg; omega) hf.texts
    rw [hch, ← hL'] at this
    refine this.mono ?_
    rintro e w' ⟨v', rfl, hr, hb'⟩
    rcases RowR.cells hr with ⟨hl0, _⟩ | ⟨g, cc, hv, _, hg, hc⟩
    · rw [hl0] at hnt; cases hnt
    · subst hv
      exact ⟨g, cc, rfl, hb.trans (hb'.mono hb.size), hc, ⟨_, hr⟩⟩
  have HF : Hid (∀ w3 g cc, Hid (∃ P', RowF w3 P' (.slice (some ⟨g, 0, none⟩) L'.length cc) L') → RowC w3 g L' → Calls Tryz.prog 66 #[.slice (some ⟨g, 0, none⟩) L'.length cc, .string p] w3 fun e w' => ∃ j : Nat, e = .returned (.int .i64 j) ∧ w3.cell? ⟨g, j * 3 + 1, none⟩ = some (.string nt) ∧ j < L'.length ∧ w3 = w') := by
    intro w3 g cc hr hc
    obtain ⟨P', hr⟩ := hr.out
    refine (find_hit _ P' L' p w3 hr hln hnt).mono ?_
    rintro e w' ⟨j, rfl, hj, rfl⟩
    have h1 := (hc j _ hj).2.1
    rw [txt_toList] at h1
    exact ⟨j, rfl, h1, (List.getElem?_eq_some_iff.1 hj).1, rfl⟩
  have HB : Hid (∀ w3, Below W1.heap.size W1 w3 → Calls Tryz.prog 89 #[vL, .string p] w3 fun e w' => e = .returned (.bool (blocked S.now p.data.toList)) ∧ w3 = w') := fun w3 hb =>
    rblk_any vL P S.now p w3 (RowR.below hp1.now hb (Nat.le_refl _)) (by omega) hps hpl
  have HU : Hid (∀ w3 g cc, Hid (∃ P', RowF w3 P' (.slice (some ⟨g, 0, none⟩) L'.length cc) L') → Calls Tryz.prog 63 #[.slice (some ⟨g, 0, none⟩) L'.length cc] w3 fun e w' => e = .returned (.int .i64 (used L' : Nat)) ∧ w3 = w') := by
    intro w3 g cc hr
    obtain ⟨P', hr⟩ := hr.out
    exact rused_any _ P' L' w3 hr hln hu
  rw [e2] at HB
  have HP := Lib.hid (rpath_b hpb w)
  have c1 := hp.cells.cell.2.1
  have hcl0 := hf.clock0
  have hcl1 := hf.clock1
  have HB1 := Lib.hid hb1
  have hsz : W1.heap.size = w.heap.size + 1 := hs1
  have e1' : ¬ (16777216 : Int) < (nt.size : Int) := by omega
  have e3' : room < (used L' : Int) := e3
  obtain ⟨cl, hcl⟩ : ∃ cl, cl = S.clock := ⟨_, rfl⟩
  obtain ⟨U, hU⟩ : ∃ U, U = used L' := ⟨_, rfl⟩
  obtain ⟨kd, hkd⟩ : ∃ kd : Int, kd = ((k + 1 : Nat) : Int) := ⟨_, rfl⟩
  rw [← hcl] at hW1 HCh HX HA c1 hcl0 hcl1
  rw [← hkd] at hW1 HCh HX HA
  rw [← hkd]
  rw [← hU] at HU e3 e3'
  have hb1d := below_drew (Below.refl W1.heap.size W1)
  obtain ⟨q0, q1, q2, q3, q4, _⟩ := HX.out _ hb1d
  have mixed := lays169.mixed
  have HL := Lib.hid hL'
  clear hp hp1 hf hx1 hs1 hb1 hch hL' hll hfl hnt hu hcl hU hkd hpb hpl hps hk e2
  subst hW1
  go_enter Tryz.func81, Tryz.ntmps81
  go_wp2_with (go_at_call 49; refine (HP.out).mono ?_; rintro e w1 ⟨rfl, rfl⟩)
  go_region_held3 (fun w' => w'.cell? ⟨w.heap.size, 0, none⟩ = some (.int .i64 kd) ∧ w'.cell? ⟨w.heap.size, 1, none⟩ = some (.string p) ∧ w'.cell? ⟨w.heap.size, 2, none⟩ = some (.string s) ∧ w'.cell? ⟨w.heap.size, 3, none⟩ = some (.int .i64 (cl + 1)) ∧ w'.cell? ⟨bm, 2, none⟩ = some vL)
    (first | exact ⟨by assumption, by assumption, by assumption, by assumption, by assumption⟩)
    (first | (go_at_call 44; refine (HA.out _ (by assumption)).mono ?_; rintro r w3 ⟨g, cc, rfl, hb3, hc3, HR3⟩; obtain ⟨k0, k1, k2, k3, k4, k5⟩ := HX.out _ hb3))
  clear HA q0 q1 q2 q3 q4 HP c1
  go_wp2_with (first
    | (go_at_call 66; refine (HF.out _ _ _ HR3 hc3).mono ?_; rintro e w4 ⟨j, rfl, hj, hjl, rfl⟩; have hi0 : ¬ ((j : Int) < 0) := (by omega); have hi1 : (0 : Int) ≤ (j : Int) := (by omega); have hi2 : (j : Int) < (L'.length : Int) := (by omega))
    | (go_at_call 89; refine (HB.out _ (by assumption)).mono ?_; rintro e w4 ⟨rfl, rfl⟩))
  have HUQ : Hid (∀ m, Calls Tryz.prog 63 #[.slice (some ⟨g, 0, none⟩) L'.length cc] (w3.drewN m) fun e w' => e = .returned (.int .i64 (U : Nat)) ∧ w3.drewN m = w') := by
    intro m
    refine HU.out _ _ _ ?_
    obtain ⟨P', hr⟩ := HR3.out
    exact ⟨P', RowR.below hr (below_drewN (Below.refl _ _) m) (Nat.le_refl _)⟩
  clear HU HF HB hc3 HR3 hj
  go_quiet ((exact still_call (HUQ.out _)))
  have hb5 := below_drewN hb3 nq
  obtain ⟨d0, d1, d2, d3, _, d5⟩ := HX.out _ hb5
  clear HUQ HX
  have HBB := Lib.hid (HB1.out.trans (hb5.mono (by omega)))
  generalize w3.drewN nq = w5 at d0 d1 d2 d3 d5 HBB hb5 ⊢
  go_wp2
  go_ret
  exact ⟨rfl, HS.out _ HBB.out⟩

set_option maxRecDepth 100000 in
set_option maxHeartbeats 2000000 in
theorem rwrite_full2 (bm : Nat) (X : Nat → Prop) (k : Nat) (p s nt : ByteArray) (room : Int) (S : St) (w : World) (h : RefS w X bm room S) (hf : RFits S (k, p.data.toList, s.data.toList, S.clock + 1)) (hk : k ≤ 1) (hpb : pathB p.data.toList = true) (hpl : ∀ y ∈ S.now, y.1.length ≤ 1048576) (hps : p.size ≤ maxLen) (hu : used (after S.now (k, p.data.toList, s.data.toList, S.clock + 1)) < 4611686018427387904)
    (hnt : look (after S.now (k, p.data.toList, s.data.toList, S.clock + 1)) p.data.toList = some (nt.data.toList, S.clock + 1)) (e1 : ¬ 16777216 < nt.size) (e2 : blocked S.now p.data.toList = false) (e3 : ¬ room < (used (after S.now (k, p.data.toList, s.data.toList, S.clock + 1)) : Int)) (e4 : 200 < (after S.now (k, p.data.toList, s.data.toList, S.clock + 1)).length) :
    Calls Tryz.prog 81 #[.pointer (some ⟨bm, 0, none⟩), .int .i64 (k + 1 : Nat), .string p, .string s] w fun r w' => r = .returned (.int .i64 6) ∧ RStep w X bm room S w' := by
  have hch : rcCells (k, p.data.toList, s.data.toList, S.clock + 1) = [.int .i64 (k + 1 : Nat), .string p, .string s, .int .i64 (S.clock + 1)] := by
    unfold rcCells
    simp only [Ch.kind, Ch.path, Ch.arg, Ch.time]
    rw [txt_toList, txt_toList, if_pos hk]
  have HCh : Hid (∀ w1, Below w.heap.size w w1 → Calls Tryz.prog 86 #[.pointer (some ⟨bm, 0, none⟩), .agg #[.int .i64 (k + 1 : Nat), .string p, .string s, .int .i64 (S.clock + 1)]] w1 fun r w' => r = .returned (.tuple #[]) ∧ RStep w X bm room (doSt S k p.data.toList s.data.toList) w') := by
    intro w1 hb
    exact (rchange_any bm X room S _ _ p s _ hch w1 (h.below hb) hf).mono (fun r w' hr => ⟨hr.1, RStep.behind hb hr.2⟩)
  have HS : Hid (∀ w', Below w.heap.size w w' → RStep w X bm room S w') := fun w' hb => RStep.same h hb
  obtain ⟨P, vL, vS, vC, hp⟩ := h
  obtain ⟨W1, hW1⟩ : ∃ W1, W1 = w.alloc (.cells #[.int .i64 (k + 1 : Nat), .string p, .string s, .int .i64 (S.clock + 1)] 101) := ⟨_, rfl⟩
  have hb1 : Below w.heap.size w W1 := by rw [hW1]; exact (Below.refl _ w).alloc (Nat.le_refl _) _
  have hs1 : W1.heap.size = w.heap.size + 1 := by rw [hW1]; simp
  have hx1 : W1.heap[w.heap.size]? = some (.cells #[.int .i64 (k + 1 : Nat), .string p, .string s, .int .i64 (S.clock + 1)] 101 (0, 0)) := by rw [hW1]; exact World.alloc_heap_new w _
  have hp1 := hp.below hb1
  have hbl : bm < w.heap.size := hp.lt _ hp.xb
  have HX : Hid (∀ wq, Below W1.heap.size W1 wq → wq.cell? ⟨w.heap.size, 0, none⟩ = some (.int .i64 (k + 1 : Nat)) ∧ wq.cell? ⟨w.heap.size, 1, none⟩ = some (.string p) ∧ wq.cell? ⟨w.heap.size, 2, none⟩ = some (.string s) ∧ wq.cell? ⟨w.heap.size, 3, none⟩ = some (.int .i64 (S.clock + 1)) ∧ wq.cell? ⟨bm, 2, none⟩ = some vL ∧ wq.cell? ⟨bm, 0, none⟩ = some (.int .i64 room)) := by
    intro wq hb
    have hx := (hb.block _ (by omega)).trans hx1
    refine ⟨?_, ?_, ?_, ?_, (hp1.cells.below hb (by omega)).cell.2.2.1, (hp1.cells.below hb (by omega)).cell.1⟩ <;> (rw [Lib.cell_of_heap hx]; rfl)
  obtain ⟨L', hL'⟩ : ∃ L', L' = after S.now (k, p.data.toList, s.data.toList, S.clock + 1) := ⟨_, rfl⟩
  have hll := after_len S.now (k, p.data.toList, s.data.toList, S.clock + 1)
  rw [← hL'] at hnt hu hll e3 e4
  have hfl := hf.files
  have hln : L'.length < 1073741824 := by omega
  have HA : Hid (∀ wq, Below W1.heap.size W1 wq → Calls Tryz.prog 44 #[vL, .agg #[.int .i64 (k + 1 : Nat), .string p, .string s, .int .i64 (S.clock + 1)]] wq fun e w' => ∃ g cc, e = .returned (.slice (some ⟨g, 0, none⟩) L'.length cc) ∧ Below W1.heap.size W1 w' ∧ RowC w' g L' ∧ Hid (∃ P', RowF w' P' (.slice (some ⟨g, 0, none⟩) L'.length cc) L')) := by
    intro wq hb
    have := after_any vL P S.now _ wq (RowR.below hp1.now hb (Nat.le_refl _)) (by omega) hf.kind (by have := hf.arg; omega) hf.texts
    rw [hch, ← hL'] at this
    refine this.mono ?_
    rintro e w' ⟨v', rfl, hr, hb'⟩
    rcases RowR.cells hr with ⟨hl0, _⟩ | ⟨g, cc, hv, _, hg, hc⟩
    · rw [hl0] at hnt; cases hnt
    · subst hv
      exact ⟨g, cc, rfl, hb.trans (hb'.mono hb.size), hc, ⟨_, hr⟩⟩
  have HF : Hid (∀ w3 g cc, Hid (∃ P', RowF w3 P' (.slice (some ⟨g, 0, none⟩) L'.length cc) L') → RowC w3 g L' → Calls Tryz.prog 66 #[.slice (some ⟨g, 0, none⟩) L'.length cc, .string p] w3 fun e w' => ∃ j : Nat, e = .returned (.int .i64 j) ∧ w3.cell? ⟨g, j * 3 + 1, none⟩ = some (.string nt) ∧ j < L'.length ∧ w3 = w') := by
    intro w3 g cc hr hc
    obtain ⟨P', hr⟩ := hr.out
    refine (find_hit _ P' L' p w3 hr hln hnt).mono ?_
    rintro e w' ⟨j, rfl, hj, rfl⟩
    have h1 := (hc j _ hj).2.1
    rw [txt_toList] at h1
    exact ⟨j, rfl, h1, (List.getElem?_eq_some_iff.1 hj).1, rfl⟩
  have HB : Hid (∀ w3, Below W1.heap.size W1 w3 → Calls Tryz.prog 89 #[vL, .string p] w3 fun e w' => e = .returned (.bool (blocked S.now p.data.toList)) ∧ w3 = w') := fun w3 hb =>
    rblk_any vL P S.now p w3 (RowR.below hp1.now hb (Nat.le_refl _)) (by omega) hps hpl
  have HU : Hid (∀ w3 g cc, Hid (∃ P', RowF w3 P' (.slice (some ⟨g, 0, none⟩) L'.length cc) L') → Calls Tryz.prog 63 #[.slice (some ⟨g, 0, none⟩) L'.length cc] w3 fun e w' => e = .returned (.int .i64 (used L' : Nat)) ∧ w3 = w') := by
    intro w3 g cc hr
    obtain ⟨P', hr⟩ := hr.out
    exact rused_any _ P' L' w3 hr hln hu
  rw [e2] at HB
  have HP := Lib.hid (rpath_b hpb w)
  have c1 := hp.cells.cell.2.1
  have hcl0 := hf.clock0
  have hcl1 := hf.clock1
  have HB1 := Lib.hid hb1
  have hsz : W1.heap.size = w.heap.size + 1 := hs1
  have e1' : ¬ (16777216 : Int) < (nt.size : Int) := by omega
  have e3' : decide (room < (used L' : Int)) = false := decide_eq_false e3
  have e4' : (200 : Int) < (L'.length : Int) := by omega
  obtain ⟨cl, hcl⟩ : ∃ cl, cl = S.clock := ⟨_, rfl⟩
  obtain ⟨U, hU⟩ : ∃ U, U = used L' := ⟨_, rfl⟩
  obtain ⟨kd, hkd⟩ : ∃ kd : Int, kd = ((k + 1 : Nat) : Int) := ⟨_, rfl⟩
  rw [← hcl] at hW1 HCh HX HA c1 hcl0 hcl1
  rw [← hkd] at hW1 HCh HX HA
  rw [← hkd]
  rw [← hU] at HU e3 e3'
  have hb1d := below_drew (Below.refl W1.heap.size W1)
  obtain ⟨q0, q1, q2, q3, q4, _⟩ := HX.out _ hb1d
  have mixed := lays169.mixed
  have HL := Lib.hid hL'
  clear hp hp1 hf hx1 hs1 hb1 hch hL' hll hfl hnt hu hcl hU hkd hpb hpl hps hk e2
  subst hW1
  go_enter Tryz.func81, Tryz.ntmps81
  go_wp2_with (go_at_call 49; refine (HP.out).mono ?_; rintro e w1 ⟨rfl, rfl⟩)
  go_region_held3 (fun w' => w'.cell? ⟨w.heap.size, 0, none⟩ = some (.int .i64 kd) ∧ w'.cell? ⟨w.heap.size, 1, none⟩ = some (.string p) ∧ w'.cell? ⟨w.heap.size, 2, none⟩ = some (.string s) ∧ w'.cell? ⟨w.heap.size, 3, none⟩ = some (.int .i64 (cl + 1)) ∧ w'.cell? ⟨bm, 2, none⟩ = some vL)
    (first | exact ⟨by assumption, by assumption, by assumption, by assumption, by assumption⟩)
    (first | (go_at_call 44; refine (HA.out _ (by assumption)).mono ?_; rintro r w3 ⟨g, cc, rfl, hb3, hc3, HR3⟩; obtain ⟨k0, k1, k2, k3, k4, k5⟩ := HX.out _ hb3))
  clear HA q0 q1 q2 q3 q4 HP c1
  go_wp2_with (first
    | (go_at_call 66; refine (HF.out _ _ _ HR3 hc3).mono ?_; rintro e w4 ⟨j, rfl, hj, hjl, rfl⟩; have hi0 : ¬ ((j : Int) < 0) := (by omega); have hi1 : (0 : Int) ≤ (j : Int) := (by omega); have hi2 : (j : Int) < (L'.length : Int) := (by omega))
    | (go_at_call 89; refine (HB.out _ (by assumption)).mono ?_; rintro e w4 ⟨rfl, rfl⟩))
  have HUQ : Hid (∀ m, Calls Tryz.prog 63 #[.slice (some ⟨g, 0, none⟩) L'.length cc] (w3.drewN m) fun e w' => e = .returned (.int .i64 (U : Nat)) ∧ w3.drewN m = w') := by
    intro m
    refine HU.out _ _ _ ?_
    obtain ⟨P', hr⟩ := HR3.out
    exact ⟨P', RowR.below hr (below_drewN (Below.refl _ _) m) (Nat.le_refl _)⟩
  clear HU HF HB hc3 HR3 hj
  go_quiet ((exact still_call (HUQ.out _)))
  have hb5 := below_drewN hb3 nq
  obtain ⟨d0, d1, d2, d3, _, d5⟩ := HX.out _ hb5
  clear HUQ HX
  have HBB := Lib.hid (HB1.out.trans (hb5.mono (by omega)))
  generalize w3.drewN nq = w5 at d0 d1 d2 d3 d5 HBB hb5 ⊢
  go_wp2
  go_ret
  exact ⟨rfl, HS.out _ HBB.out⟩

set_option maxRecDepth 100000 in
set_option maxHeartbeats 2000000 in
theorem rwrite_ok (bm : Nat) (X : Nat → Prop) (k : Nat) (p s nt : ByteArray) (room : Int) (S : St) (w : World) (h : RefS w X bm room S) (hf : RFits S (k, p.data.toList, s.data.toList, S.clock + 1)) (hk : k ≤ 1) (hpb : pathB p.data.toList = true) (hpl : ∀ y ∈ S.now, y.1.length ≤ 1048576) (hps : p.size ≤ maxLen) (hu : used (after S.now (k, p.data.toList, s.data.toList, S.clock + 1)) < 4611686018427387904)
    (hnt : look (after S.now (k, p.data.toList, s.data.toList, S.clock + 1)) p.data.toList = some (nt.data.toList, S.clock + 1)) (e1 : ¬ 16777216 < nt.size) (e2 : blocked S.now p.data.toList = false) (e3 : ¬ room < (used (after S.now (k, p.data.toList, s.data.toList, S.clock + 1)) : Int)) (e4 : ¬ 200 < (after S.now (k, p.data.toList, s.data.toList, S.clock + 1)).length) :
    Calls Tryz.prog 81 #[.pointer (some ⟨bm, 0, none⟩), .int .i64 (k + 1 : Nat), .string p, .string s] w fun r w' => r = .returned (.int .i64 0) ∧ RStep w X bm room (doSt S k p.data.toList s.data.toList) w' := by
  have hch : rcCells (k, p.data.toList, s.data.toList, S.clock + 1) = [.int .i64 (k + 1 : Nat), .string p, .string s, .int .i64 (S.clock + 1)] := by
    unfold rcCells
    simp only [Ch.kind, Ch.path, Ch.arg, Ch.time]
    rw [txt_toList, txt_toList, if_pos hk]
  have HCh : Hid (∀ w1, Below w.heap.size w w1 → Calls Tryz.prog 86 #[.pointer (some ⟨bm, 0, none⟩), .agg #[.int .i64 (k + 1 : Nat), .string p, .string s, .int .i64 (S.clock + 1)]] w1 fun r w' => r = .returned (.tuple #[]) ∧ RStep w X bm room (doSt S k p.data.toList s.data.toList) w') := by
    intro w1 hb
    exact (rchange_any bm X room S _ _ p s _ hch w1 (h.below hb) hf).mono (fun r w' hr => ⟨hr.1, RStep.behind hb hr.2⟩)
  have HS : Hid (∀ w', Below w.heap.size w w' → RStep w X bm room S w') := fun w' hb => RStep.same h hb
  obtain ⟨P, vL, vS, vC, hp⟩ := h
  obtain ⟨W1, hW1⟩ : ∃ W1, W1 = w.alloc (.cells #[.int .i64 (k + 1 : Nat), .string p, .string s, .int .i64 (S.clock + 1)] 101) := ⟨_, rfl⟩
  have hb1 : Below w.heap.size w W1 := by rw [hW1]; exact (Below.refl _ w).alloc (Nat.le_refl _) _
  have hs1 : W1.heap.size = w.heap.size + 1 := by rw [hW1]; simp
  have hx1 : W1.heap[w.heap.size]? = some (.cells #[.int .i64 (k + 1 : Nat), .string p, .string s, .int .i64 (S.clock + 1)] 101 (0, 0)) := by rw [hW1]; exact World.alloc_heap_new w _
  have hp1 := hp.below hb1
  have hbl : bm < w.heap.size := hp.lt _ hp.xb
  have HX : Hid (∀ wq, Below W1.heap.size W1 wq → wq.cell? ⟨w.heap.size, 0, none⟩ = some (.int .i64 (k + 1 : Nat)) ∧ wq.cell? ⟨w.heap.size, 1, none⟩ = some (.string p) ∧ wq.cell? ⟨w.heap.size, 2, none⟩ = some (.string s) ∧ wq.cell? ⟨w.heap.size, 3, none⟩ = some (.int .i64 (S.clock + 1)) ∧ wq.cell? ⟨bm, 2, none⟩ = some vL ∧ wq.cell? ⟨bm, 0, none⟩ = some (.int .i64 room)) := by
    intro wq hb
    have hx := (hb.block _ (by omega)).trans hx1
    refine ⟨?_, ?_, ?_, ?_, (hp1.cells.below hb (by omega)).cell.2.2.1, (hp1.cells.below hb (by omega)).cell.1⟩ <;> (rw [Lib.cell_of_heap hx]; rfl)
  obtain ⟨L', hL'⟩ : ∃ L', L' = after S.now (k, p.data.toList, s.data.toList, S.clock + 1) := ⟨_, rfl⟩
  have hll := after_len S.now (k, p.data.toList, s.data.toList, S.clock + 1)
  rw [← hL'] at hnt hu hll e3 e4
  have hfl := hf.files
  have hln : L'.length < 1073741824 := by omega
  have HA : Hid (∀ wq, Below W1.heap.size W1 wq → Calls Tryz.prog 44 #[vL, .agg #[.int .i64 (k + 1 : Nat), .string p, .string s, .int .i64 (S.clock + 1)]] wq fun e w' => ∃ g cc, e = .returned (.slice (some ⟨g, 0, none⟩) L'.length cc) ∧ Below W1.heap.size W1 w' ∧ RowC w' g L' ∧ Hid (∃ P', RowF w' P' (.slice (some ⟨g, 0, none⟩) L'.length cc) L')) := by
    intro wq hb
    have := after_any vL P S.now _ wq (RowR.below hp1.now hb (Nat.le_refl _)) (by omega) hf.kind (by have := hf.arg; omega) hf.texts
    rw [hch, ← hL'] at this
    refine this.mono ?_
    rintro e w' ⟨v', rfl, hr, hb'⟩
    rcases RowR.cells hr with ⟨hl0, _⟩ | ⟨g, cc, hv, _, hg, hc⟩
    · rw [hl0] at hnt; cases hnt
    · subst hv
      exact ⟨g, cc, rfl, hb.trans (hb'.mono hb.size), hc, ⟨_, hr⟩⟩
  have HF : Hid (∀ w3 g cc, Hid (∃ P', RowF w3 P' (.slice (some ⟨g, 0, none⟩) L'.length cc) L') → RowC w3 g L' → Calls Tryz.prog 66 #[.slice (some ⟨g, 0, none⟩) L'.length cc, .string p] w3 fun e w' => ∃ j : Nat, e = .returned (.int .i64 j) ∧ w3.cell? ⟨g, j * 3 + 1, none⟩ = some (.string nt) ∧ j < L'.length ∧ w3 = w') := by
    intro w3 g cc hr hc
    obtain ⟨P', hr⟩ := hr.out
    refine (find_hit _ P' L' p w3 hr hln hnt).mono ?_
    rintro e w' ⟨j, rfl, hj, rfl⟩
    have h1 := (hc j _ hj).2.1
    rw [txt_toList] at h1
    exact ⟨j, rfl, h1, (List.getElem?_eq_some_iff.1 hj).1, rfl⟩
  have HB : Hid (∀ w3, Below W1.heap.size W1 w3 → Calls Tryz.prog 89 #[vL, .string p] w3 fun e w' => e = .returned (.bool (blocked S.now p.data.toList)) ∧ w3 = w') := fun w3 hb =>
    rblk_any vL P S.now p w3 (RowR.below hp1.now hb (Nat.le_refl _)) (by omega) hps hpl
  have HU : Hid (∀ w3 g cc, Hid (∃ P', RowF w3 P' (.slice (some ⟨g, 0, none⟩) L'.length cc) L') → Calls Tryz.prog 63 #[.slice (some ⟨g, 0, none⟩) L'.length cc] w3 fun e w' => e = .returned (.int .i64 (used L' : Nat)) ∧ w3 = w') := by
    intro w3 g cc hr
    obtain ⟨P', hr⟩ := hr.out
    exact rused_any _ P' L' w3 hr hln hu
  rw [e2] at HB
  have HP := Lib.hid (rpath_b hpb w)
  have c1 := hp.cells.cell.2.1
  have hcl0 := hf.clock0
  have hcl1 := hf.clock1
  have HB1 := Lib.hid hb1
  have hsz : W1.heap.size = w.heap.size + 1 := hs1
  have e1' : ¬ (16777216 : Int) < (nt.size : Int) := by omega
  have e3' : decide (room < (used L' : Int)) = false := decide_eq_false e3
  have e4' : ¬ (200 : Int) < (L'.length : Int) := by omega
  obtain ⟨cl, hcl⟩ : ∃ cl, cl = S.clock := ⟨_, rfl⟩
  obtain ⟨U, hU⟩ : ∃ U, U = used L' := ⟨_, rfl⟩
  obtain ⟨kd, hkd⟩ : ∃ kd : Int, kd = ((k + 1 : Nat) : Int) := ⟨_, rfl⟩
  rw [← hcl] at hW1 HCh HX HA c1 hcl0 hcl1
  rw [← hkd] at hW1 HCh HX HA
  rw [← hkd]
  rw [← hU] at HU e3 e3'
  have hb1d := below_drew (Below.refl W1.heap.size W1)
  obtain ⟨q0, q1, q2, q3, q4, _⟩ := HX.out _ hb1d
  have mixed := lays169.mixed
  have HL := Lib.hid hL'
  clear hp hp1 hf hx1 hs1 hb1 hch hL' hll hfl hnt hu hcl hU hkd hpb hpl hps hk e2
  subst hW1
  go_enter Tryz.func81, Tryz.ntmps81
  go_wp2_with (go_at_call 49; refine (HP.out).mono ?_; rintro e w1 ⟨rfl, rfl⟩)
  go_region_held3 (fun w' => w'.cell? ⟨w.heap.size, 0, none⟩ = some (.int .i64 kd) ∧ w'.cell? ⟨w.heap.size, 1, none⟩ = some (.string p) ∧ w'.cell? ⟨w.heap.size, 2, none⟩ = some (.string s) ∧ w'.cell? ⟨w.heap.size, 3, none⟩ = some (.int .i64 (cl + 1)) ∧ w'.cell? ⟨bm, 2, none⟩ = some vL)
    (first | exact ⟨by assumption, by assumption, by assumption, by assumption, by assumption⟩)
    (first | (go_at_call 44; refine (HA.out _ (by assumption)).mono ?_; rintro r w3 ⟨g, cc, rfl, hb3, hc3, HR3⟩; obtain ⟨k0, k1, k2, k3, k4, k5⟩ := HX.out _ hb3))
  clear HA q0 q1 q2 q3 q4 HP c1
  go_wp2_with (first
    | (go_at_call 66; refine (HF.out _ _ _ HR3 hc3).mono ?_; rintro e w4 ⟨j, rfl, hj, hjl, rfl⟩; have hi0 : ¬ ((j : Int) < 0) := (by omega); have hi1 : (0 : Int) ≤ (j : Int) := (by omega); have hi2 : (j : Int) < (L'.length : Int) := (by omega))
    | (go_at_call 89; refine (HB.out _ (by assumption)).mono ?_; rintro e w4 ⟨rfl, rfl⟩))
  have HUQ : Hid (∀ m, Calls Tryz.prog 63 #[.slice (some ⟨g, 0, none⟩) L'.length cc] (w3.drewN m) fun e w' => e = .returned (.int .i64 (U : Nat)) ∧ w3.drewN m = w') := by
    intro m
    refine HU.out _ _ _ ?_
    obtain ⟨P', hr⟩ := HR3.out
    exact ⟨P', RowR.below hr (below_drewN (Below.refl _ _) m) (Nat.le_refl _)⟩
  clear HU HF HB hc3 HR3 hj
  go_quiet ((exact still_call (HUQ.out _)))
  have hb5 := below_drewN hb3 nq
  obtain ⟨d0, d1, d2, d3, _, d5⟩ := HX.out _ hb5
  clear HUQ HX
  have HBB := Lib.hid (HB1.out.trans (hb5.mono (by omega)))
  generalize w3.drewN nq = w5 at d0 d1 d2 d3 d5 HBB hb5 ⊢
  go_wp2_with (first | (go_at_call 86; refine (HCh.out _ HBB.out).mono ?_; rintro r w7 ⟨rfl, hq7⟩))
  go_ret
  exact ⟨rfl, hq7⟩

end Go.Proofs.YtchnbnmajagpjaaGreatDoor

namespace Go.Proofs.YtchnbnmajagpjaaGreatDoor
open Go.RowKit Go.Shelf Go.Maps

theorem Good.rfits {room : Int} {n : Nat} {S : St} (h : Good room n S) (hn : n < 536870912) {c : Ch} (hk : c.kind ≤ 3) (ha : c.arg.length ≤ 1048576) : RFits S c :=
  ⟨hk, ha, by have := h.files.len; omega, fun y hy => by have := h.files.texts y hy; omega, by have := h.pends; omega, h.clock0, by have := h.clock1; omega⟩
def newT (k : Nat) (S : St) (p s : BS) : BS := if k = 0 then s else textOf S.now p ++ s
def opK (k : Nat) (room : Int) (S : St) (p s : BS) : Int × St :=
  if checkC room S.now p (newT k S p s).length = 0 then (0, doSt S k p s) else (checkC room S.now p (newT k S p s).length, S)
theorem opK_0 (room : Int) (S : St) (p s : BS) : opK 0 room S p s = opW room S p s := rfl
theorem opK_1 (room : Int) (S : St) (p s : BS) : opK 1 room S p s = opA room S p s := by
  unfold opK opA
  rw [show (newT 1 S p s).length = (textOf S.now p).length + s.length by unfold newT; rw [if_neg (by omega), List.length_append]]
theorem after_new {k : Nat} (hk : k ≤ 1) (S : St) (p s : BS) (t : Int) : after S.now (k, p, s, t) = put (p, newT k S p s, t) S.now := by
  rcases (show k = 0 ∨ k = 1 by omega) with rfl | rfl <;> rfl

theorem rwrite_good (bm : Nat) (X : Nat → Prop) (k : Nat) (hk : k ≤ 1) (p s : ByteArray) (room : Int) (n : Nat) (S : St) (w : World) (h : RefS w X bm room S) (hg : Good room n S) (hn : n < 536870912) (hp : p.size ≤ 1048576) (hs : s.size ≤ 1048576) :
    Calls Tryz.prog 81 #[.pointer (some ⟨bm, 0, none⟩), .int .i64 (k + 1 : Nat), .string p, .string s] w fun r w' => r = .returned (.int .i64 (opK k room S p.data.toList s.data.toList).1) ∧ RStep w X bm room (opK k room S p.data.toList s.data.toList).2 w' := by
  have hsl : s.data.toList.length ≤ 1048576 := by rw [size_list]; exact hs
  have hf : RFits S (k, p.data.toList, s.data.toList, S.clock + 1) := hg.rfits hn (by show k ≤ 3; omega) hsl
  obtain ⟨nt, hnt⟩ : ∃ nt : ByteArray, nt = txt (newT k S p.data.toList s.data.toList) := ⟨_, rfl⟩
  have hnd : nt.data.toList = newT k S p.data.toList s.data.toList := by rw [hnt, txt_data]
  have hns : (newT k S p.data.toList s.data.toList).length = nt.size := by rw [← hnd, size_list]
  have hlook : look (after S.now (k, p.data.toList, s.data.toList, S.clock + 1)) p.data.toList = some (nt.data.toList, S.clock + 1) := by
    rw [after_new hk, hnd]; exact look_put_same hg.files.srt _ _
  have hused : used (after S.now (k, p.data.toList, s.data.toList, S.clock + 1)) + (textOf S.now p.data.toList).length = used S.now + nt.size := by
    rw [after_new hk, used_put hg.files.srt, ← hns]
  have hlen : (after S.now (k, p.data.toList, s.data.toList, S.clock + 1)).length = if (look S.now p.data.toList).isSome then S.now.length else S.now.length + 1 := by
    rw [after_new hk, put_length hg.files.srt]
  have htl := text_used S.now p.data.toList
  have hfit := hg.files.fit
  have hr1 := hg.room1
  have hl200 := hg.files.len
  have hnts : nt.size ≤ 16777216 + 1048576 := by
    rw [← hns]; unfold newT
    split
    · omega
    · rw [List.length_append]
      have : (textOf S.now p.data.toList).length ≤ 16777216 := by
        unfold textOf
        cases hx : look S.now p.data.toList with
        | none => simp
        | some v => exact hg.files.texts _ (look_mem hx)
      omega
  have hu : used (after S.now (k, p.data.toList, s.data.toList, S.clock + 1)) < 4611686018427387904 := by omega
  have hpl : ∀ y ∈ S.now, y.1.length ≤ 1048576 := fun y hy => by have := hg.files.short y hy; omega
  have hpm : p.size ≤ maxLen := by unfold maxLen; omega
  unfold opK checkC
  rw [hns]
  cases hpb : pathB p.data.toList with
  | false =>
    rw [if_pos rfl, if_neg (by omega)]
    exact (rwrite_arg bm _ p s w hpb).mono (fun r w' hr => ⟨hr.1, by rw [← hr.2]; exact RStep.same h (Below.refl _ _)⟩)
  | true =>
    rw [if_neg (show ¬ true = false by simp)]
    by_cases e1 : 16777216 < nt.size
    · rw [if_pos e1, if_neg (by omega)]
      exact rwrite_long bm X k p s nt room S w h hf hk hpb hpl hpm hu hlook e1
    · rw [if_neg e1]
      cases e2 : blocked S.now p.data.toList with
      | true =>
        rw [if_pos rfl, if_neg (by omega)]
        exact rwrite_there bm X k p s nt room S w h hf hk hpb hpl hpm hu hlook e1 e2
      | false =>
        rw [if_neg (show ¬ false = true by simp)]
        by_cases e3 : room < (used (after S.now (k, p.data.toList, s.data.toList, S.clock + 1)) : Int)
        · rw [if_pos (show room < (used S.now : Int) - ((textOf S.now p.data.toList).length : Int) + (nt.size : Int) by omega), if_neg (by omega)]
          exact rwrite_full1 bm X k p s nt room S w h hf hk hpb hpl hpm hu hlook e1 e2 e3
        · rw [if_neg (show ¬ room < (used S.now : Int) - ((textOf S.now p.data.toList).length : Int) + (nt.size : Int) by omega)]
          by_cases e4 : 200 < (after S.now (k, p.data.toList, s.data.toList, S.clock + 1)).length
          · have h4 : 200 ≤ S.now.length ∧ (look S.now p.data.toList).isSome = false := by
              rw [hlen] at e4
              cases hx : (look S.now p.data.toList).isSome with
              | true => rw [hx, if_pos rfl] at e4; omega
              | false => rw [hx, if_neg (by simp)] at e4; exact ⟨by omega, rfl⟩
            rw [if_pos h4, if_neg (by omega)]
            exact rwrite_full2 bm X k p s nt room S w h hf hk hpb hpl hpm hu hlook e1 e2 e3 e4
          · have h4 : ¬ (200 ≤ S.now.length ∧ (look S.now p.data.toList).isSome = false) := by
              rintro ⟨h5, h6⟩
              rw [hlen, h6, if_neg (by simp)] at e4
              omega
            rw [if_neg h4, if_pos rfl]
            exact rwrite_ok bm X k p s nt room S w h hf hk hpb hpl hpm hu hlook e1 e2 e3 e4

set_option maxRecDepth 100000 in
set_option maxHeartbeats 1000000 in
theorem rWrite_good (bm : Nat) (X : Nat → Prop) (p s : ByteArray) (room : Int) (n : Nat) (S : St) (w : World) (h : RefS w X bm room S) (hg : Good room n S) (hn : n < 536870912) (hp : p.size ≤ 1048576) (hs : s.size ≤ 1048576) :
    Calls Tryz.prog 59 #[.pointer (some ⟨bm, 0, none⟩), .string p, .string s] w fun r w' => r = .returned (.int .i64 (opW room S p.data.toList s.data.toList).1) ∧ RStep w X bm room (opW room S p.data.toList s.data.toList).2 w' := by
  have := rwrite_good bm X 0 (by omega) p s room n S w h hg hn hp hs
  rw [opK_0] at this
  have HC := Lib.hid this
  clear this h hg hn hp hs
  go_enter Tryz.func59, Tryz.ntmps59
  go_wp2_with (go_at_call 81; refine (HC.out).mono ?_; rintro e w1 ⟨rfl, hq⟩)
  go_ret
  exact ⟨rfl, hq⟩
set_option maxRecDepth 100000 in
set_option maxHeartbeats 1000000 in
theorem rAppend_good (bm : Nat) (X : Nat → Prop) (p s : ByteArray) (room : Int) (n : Nat) (S : St) (w : World) (h : RefS w X bm room S) (hg : Good room n S) (hn : n < 536870912) (hp : p.size ≤ 1048576) (hs : s.size ≤ 1048576) :
    Calls Tryz.prog 51 #[.pointer (some ⟨bm, 0, none⟩), .string p, .string s] w fun r w' => r = .returned (.int .i64 (opA room S p.data.toList s.data.toList).1) ∧ RStep w X bm room (opA room S p.data.toList s.data.toList).2 w' := by
  have := rwrite_good bm X 1 (by omega) p s room n S w h hg hn hp hs
  rw [opK_1] at this
  have HC := Lib.hid this
  clear this h hg hn hp hs
  go_enter Tryz.func51, Tryz.ntmps51
  go_wp2_with (go_at_call 81; refine (HC.out).mono ?_; rintro e w1 ⟨rfl, hq⟩)
  go_ret
  exact ⟨rfl, hq⟩

end Go.Proofs.YtchnbnmajagpjaaGreatDoor

namespace Go.Proofs.YtchnbnmajagpjaaGreatDoor
open Go.RowKit Go.Shelf Go.Maps

theorem RefP.cellL {w w' : World} {X P : Nat → Prop} {bm : Nat} {room : Int} {S : St} {vL vS vC : Value} (h : RefP w X bm room S P vL vS vC) (hb : Below w.heap.size w w') : w'.cell? ⟨bm, 2, none⟩ = some vL := (h.below hb).cells.cell.2.2.1

/-- Find, in the document's tree. -/
theorem rfind_no {w w' : World} {X P : Nat → Prop} {bm : Nat} {room : Int} {S : St} {vL vS vC : Value} (h : RefP w X bm room S P vL vS vC) (hln : S.now.length < 1073741824) (p : ByteArray) (hl : (look S.now p.data.toList).isSome = false) (hb : Below w.heap.size w w') :
    Calls Tryz.prog 66 #[vL, .string p] w' fun e w2 => e = .returned (.int .i64 (-1)) ∧ w' = w2 :=
  find_none vL P S.now p w' (h.below hb).now hln (by cases hx : look S.now p.data.toList with | none => rfl | some v => rw [hx] at hl; cases hl)
theorem rfind_at {w w' : World} {X P : Nat → Prop} {bm : Nat} {room : Int} {S : St} {vL vS vC : Value} (h : RefP w X bm room S P vL vS vC) (hln : S.now.length < 1073741824) (p : ByteArray) (hl : (look S.now p.data.toList).isSome = true) (hb : Below w.heap.size w w') :
    Calls Tryz.prog 66 #[vL, .string p] w' fun e w2 => (∃ j : Nat, e = .returned (.int .i64 j)) ∧ w' = w2 := by
  obtain ⟨v, hv⟩ := Option.isSome_iff_exists.1 hl
  refine (find_hit vL P S.now p w' (h.below hb).now hln hv).mono ?_
  rintro e w2 ⟨j, rfl, _, rfl⟩
  exact ⟨⟨j, rfl⟩, rfl⟩

set_option maxRecDepth 100000 in
set_option maxHeartbeats 1000000 in
theorem rRemove_good (bm : Nat) (X : Nat → Prop) (p : ByteArray) (room : Int) (n : Nat) (S : St) (w : World) (h : RefS w X bm room S) (hg : Good room n S) (hn : n < 536870912) :
    Calls Tryz.prog 56 #[.pointer (some ⟨bm, 0, none⟩), .string p] w fun r w' => r = .returned (.int .i64 (opR S p.data.toList).1) ∧ RStep w X bm room (opR S p.data.toList).2 w' := by
  have hln : S.now.length < 1073741824 := by have := hg.files.len; omega
  obtain ⟨P, vL, vS, vC, hp⟩ := id h
  have c2 := hp.cells.cell.2.2.1
  unfold opR
  cases hl : (look S.now p.data.toList).isSome with
  | false =>
    rw [if_neg (by simp)]
    have HF := Lib.hid (rfind_no hp hln p hl (Below.refl _ _))
    have HT := Lib.hid h
    clear h hg hp hl
    go_enter Tryz.func56, Tryz.ntmps56
    go_wp2_with (go_at_call 66; refine (HF.out).mono ?_; rintro e w1 ⟨rfl, rfl⟩)
    go_ret
    exact ⟨rfl, RStep.same HT.out (Below.refl _ _)⟩
  | true =>
    rw [if_pos rfl]
    have HF := Lib.hid (rfind_at hp hln p hl (Below.refl _ _))
    have hch : rcCells (2, p.data.toList, [], S.clock + 1) = [.int .i64 3, .string p, .string ⟨#[]⟩, .int .i64 0] := by
      unfold rcCells
      simp only [Ch.kind, Ch.path, Ch.arg, Ch.time]
      rw [txt_toList, if_neg (by omega)]; rfl
    have HC := Lib.hid (rchange_any bm X room S _ _ p _ _ hch w h (hg.rfits hn (by simp [Ch.kind]) (by simp [Ch.arg])))
    clear h hg hp hl hch
    go_enter Tryz.func56, Tryz.ntmps56
    go_wp2_with (first
      | (go_at_call 66; refine (HF.out).mono ?_; rintro e w1 ⟨⟨j, rfl⟩, rfl⟩; have hi0 : ¬ ((j : Int) < 0) := (by omega))
      | (go_at_call 86; refine (HC.out).mono ?_; rintro e w2 ⟨rfl, hq⟩))
    go_ret
    exact ⟨rfl, hq⟩

set_option maxRecDepth 100000 in
set_option maxHeartbeats 2000000 in
theorem rRename_good (bm : Nat) (X : Nat → Prop) (p q : ByteArray) (room : Int) (n : Nat) (S : St) (w : World) (h : RefS w X bm room S) (hg : Good room n S) (hn : n < 536870912) (hq : q.size ≤ 1048576) :
    Calls Tryz.prog 60 #[.pointer (some ⟨bm, 0, none⟩), .string p, .string q] w fun r w' => r = .returned (.int .i64 (opN S p.data.toList q.data.toList).1) ∧ RStep w X bm room (opN S p.data.toList q.data.toList).2 w' := by
  have hln : S.now.length < 1073741824 := by have := hg.files.len; omega
  obtain ⟨P, vL, vS, vC, hp⟩ := id h
  have c2 := hp.cells.cell.2.2.1
  have HT := Lib.hid h
  unfold opN
  cases hl : (look S.now p.data.toList).isSome with
  | false =>
    rw [if_pos rfl]
    have HF := Lib.hid (rfind_no hp hln p hl (Below.refl _ _))
    clear h hg hp hl
    go_enter Tryz.func60, Tryz.ntmps60
    go_wp2_with (go_at_call 66; refine (HF.out).mono ?_; rintro e w1 ⟨rfl, rfl⟩)
    go_ret
    exact ⟨rfl, RStep.same HT.out (Below.refl _ _)⟩
  | true =>
    rw [if_neg (by simp)]
    have HF := Lib.hid (rfind_at hp hln p hl (Below.refl _ _))
    cases hpq : pathB q.data.toList with
    | false =>
      rw [if_pos rfl]
      have HP := Lib.hid (rpath_b hpq w)
      clear h hg hp hl hpq
      go_enter Tryz.func60, Tryz.ntmps60
      go_wp2_with (first
        | (go_at_call 66; refine (HF.out).mono ?_; rintro e w1 ⟨⟨j, rfl⟩, rfl⟩; have hi0 : ¬ ((j : Int) < 0) := (by omega))
        | (go_at_call 49; refine (HP.out).mono ?_; rintro e w2 ⟨rfl, rfl⟩))
      go_ret
      exact ⟨rfl, RStep.same HT.out (Below.refl _ _)⟩
    | true =>
      rw [if_neg (by simp)]
      have HP := Lib.hid (rpath_b hpq w)
      by_cases hpe : p = q
      · have e1 : (p.toList == q.toList) = true := by rw [str_eq]; simp [hpe]
        rw [if_pos (by rw [hpe])]
        clear h hg hp hl hpq hpe
        go_enter Tryz.func60, Tryz.ntmps60
        go_wp2_with (first
          | (go_at_call 66; refine (HF.out).mono ?_; rintro e w1 ⟨⟨j, rfl⟩, rfl⟩; have hi0 : ¬ ((j : Int) < 0) := (by omega))
          | (go_at_call 49; refine (HP.out).mono ?_; rintro e w2 ⟨rfl, rfl⟩))
        go_ret
        exact ⟨rfl, RStep.same HT.out (Below.refl _ _)⟩
      · have e1 : (p.toList == q.toList) = false := by rw [str_eq]; simp [hpe]
        rw [if_neg (fun e => hpe (by rw [← txt_toList p, ← txt_toList q, e]))]
        have HD : Hid (Calls Tryz.prog 68 #[vL, .string p] w fun e w' => ∃ o m c, e = .returned (.slice o m c) ∧ Below w.heap.size w w' ∧ Calls Tryz.prog 89 #[.slice o m c, .string q] w' fun e w2 => e = .returned (.bool (blocked (drp p.data.toList S.now) q.data.toList)) ∧ w' = w2) := by
          refine (drop_any vL P S.now p w hp.now hln).mono ?_
          rintro e w' ⟨v', rfl, hr, hb'⟩
          obtain ⟨o, cc, rfl, _⟩ := hr.shape (fun _ => rfl)
          exact ⟨o, _, cc, rfl, hb', rblk_any _ _ _ q w' hr (Nat.lt_of_le_of_lt (drp_len _ _) hln) (by unfold maxLen; omega) (fun y hy => by have := hg.files.short y (mem_drp.1 hy).1; omega)⟩
        cases hbk : blocked (drp p.data.toList S.now) q.data.toList with
        | true =>
          rw [if_pos rfl]
          rw [hbk] at HD
          clear h hg hp hl hpq hpe hbk
          go_enter Tryz.func60, Tryz.ntmps60
          go_wp2_with (first
            | (go_at_call 66; refine (HF.out).mono ?_; rintro e w1 ⟨⟨j, rfl⟩, rfl⟩; have hi0 : ¬ ((j : Int) < 0) := (by omega))
            | (go_at_call 49; refine (HP.out).mono ?_; rintro e w2 ⟨rfl, rfl⟩)
            | (go_at_call 68; refine (HD.out).mono ?_; rintro e w3 ⟨o3, n3, c3, rfl, hb3, hB3⟩; have HB3 := Lib.hid hB3; clear hB3)
            | (go_at_call 89; refine (HB3.out).mono ?_; rintro e w4 ⟨rfl, rfl⟩))
          go_ret
          exact ⟨rfl, RStep.same HT.out hb3⟩
        | false =>
          rw [if_neg (by simp)]
          rw [hbk] at HD
          have hch : rcCells (3, p.data.toList, q.data.toList, S.clock + 1) = [.int .i64 4, .string p, .string q, .int .i64 0] := by
            unfold rcCells
            simp only [Ch.kind, Ch.path, Ch.arg, Ch.time]
            rw [txt_toList, txt_toList, if_neg (by omega)]; rfl
          have HCh : Hid (∀ w1, Below w.heap.size w w1 → Calls Tryz.prog 86 #[.pointer (some ⟨bm, 0, none⟩), .agg #[.int .i64 4, .string p, .string q, .int .i64 0]] w1 fun r w' => r = .returned (.tuple #[]) ∧ RStep w X bm room (doSt S 3 p.data.toList q.data.toList) w') := by
            intro w1 hb
            exact (rchange_any bm X room S _ _ p q _ hch w1 (h.below hb) (hg.rfits hn (by simp [Ch.kind]) (by simp only [Ch.arg]; rw [size_list]; exact hq))).mono (fun r w' hr => ⟨hr.1, RStep.behind hb hr.2⟩)
          clear h hg hp hl hpq hpe hbk hch
          go_enter Tryz.func60, Tryz.ntmps60
          go_wp2_with (first
            | (go_at_call 66; refine (HF.out).mono ?_; rintro e w1 ⟨⟨j, rfl⟩, rfl⟩; have hi0 : ¬ ((j : Int) < 0) := (by omega))
            | (go_at_call 49; refine (HP.out).mono ?_; rintro e w2 ⟨rfl, rfl⟩)
            | (go_at_call 68; refine (HD.out).mono ?_; rintro e w3 ⟨o3, n3, c3, rfl, hb3, hB3⟩; have HB3 := Lib.hid hB3; clear hB3)
            | (go_at_call 89; refine (HB3.out).mono ?_; rintro e w4 ⟨rfl, rfl⟩)
            | (go_at_call 86; refine (HCh.out _ hb3).mono ?_; rintro e w5 ⟨rfl, hq5⟩))
          go_ret
          exact ⟨rfl, hq5⟩

set_option maxRecDepth 100000 in
set_option maxHeartbeats 1000000 in
theorem rRead_good (bm : Nat) (X : Nat → Prop) (p : ByteArray) (room : Int) (n : Nat) (S : St) (w : World) (h : RefS w X bm room S) (hg : Good room n S) :
    Calls Tryz.prog 87 #[.pointer (some ⟨bm, 0, none⟩), .string p] w fun r w' => r = .returned (.tuple #[.string (txt (opRead S p.data.toList).1), .int .i64 (opRead S p.data.toList).2]) ∧ w = w' := by
  have hln : S.now.length < 1073741824 := by have := hg.files.len; omega
  obtain ⟨P, vL, vS, vC, hp⟩ := id h
  have c2 := hp.cells.cell.2.2.1
  unfold opRead
  cases hl : look S.now p.data.toList with
  | none =>
    have HF := Lib.hid (rfind_no hp hln p (by rw [hl]; rfl) (Below.refl _ _))
    clear h hg hp hl
    go_enter Tryz.func87, Tryz.ntmps87
    go_wp2_with (go_at_call 66; refine (HF.out).mono ?_; rintro e w1 ⟨rfl, rfl⟩)
    go_ret2
    exact ⟨rfl, rfl⟩
  | some v =>
    obtain ⟨vt, vm⟩ := v
    obtain ⟨st, hst⟩ : ∃ st, st = txt vt := ⟨_, rfl⟩
    have HF : Hid (Calls Tryz.prog 66 #[vL, .string p] w fun e w' => ∃ j : Nat, e = .returned (.int .i64 j) ∧ (∃ g c, vL = .slice (some ⟨g, 0, none⟩) S.now.length c ∧ w.cell? ⟨g, j * 3 + 1, none⟩ = some (.string st)) ∧ j < S.now.length ∧ w = w') := by
      refine (find_hit vL P S.now p w hp.now hln hl).mono ?_
      rintro e w' ⟨j, rfl, hj, rfl⟩
      have hjl := (List.getElem?_eq_some_iff.1 hj).1
      rcases RowR.cells hp.now with ⟨hl0, _⟩ | ⟨g, c, hv, _, _, hc⟩
      · rw [hl0] at hjl; simp at hjl
      · exact ⟨j, rfl, ⟨g, c, hv, by rw [hst]; exact (hc j _ hj).2.1⟩, hjl, rfl⟩
    show Calls _ _ _ _ fun r w' => r = .returned (.tuple #[.string (txt vt), .int .i64 0]) ∧ w = w'
    rw [← hst]
    obtain ⟨ln, hlnn⟩ : ∃ ln, ln = S.now.length := ⟨_, rfl⟩
    rw [← hlnn] at HF
    clear h hg hp hl hst hlnn
    go_enter Tryz.func87, Tryz.ntmps87
    go_wp2_with (go_at_call 66; refine (HF.out).mono ?_; rintro e w1 ⟨j, rfl, ⟨g, c, rfl, hc⟩, hjl, rfl⟩; have hi0 : ¬ ((j : Int) < 0) := (by omega); have hi1 : (0 : Int) ≤ (j : Int) := (by omega); have hi2 : (j : Int) < (ln : Int) := (by omega))
    go_ret2
    exact ⟨rfl, rfl⟩

set_option maxRecDepth 100000 in
set_option maxHeartbeats 1000000 in
theorem rUsed_good (bm : Nat) (X : Nat → Prop) (room : Int) (n : Nat) (S : St) (w : World) (h : RefS w X bm room S) (hg : Good room n S) :
    Calls Tryz.prog 36 #[.pointer (some ⟨bm, 0, none⟩)] w fun r w' => r = .returned (.int .i64 (used S.now : Nat)) ∧ w = w' := by
  obtain ⟨P, vL, vS, vC, hp⟩ := id h
  have c2 := hp.cells.cell.2.2.1
  have HU := Lib.hid (rused_any vL P S.now w hp.now (by have := hg.files.len; omega) (by have := hg.files.fit; have := hg.room1; omega))
  clear h hg hp
  go_enter Tryz.func36, Tryz.ntmps36
  go_wp2_with (go_at_call 63; refine (HU.out).mono ?_; rintro e w1 ⟨rfl, rfl⟩)
  go_ret
  exact ⟨rfl, rfl⟩

/-- Behind a sync, or a crash: both rows are one. -/
theorem ref_ends {w w1 W : World} {X P P1 : Nat → Prop} {bm : Nat} {room : Int} {S : St} {vL vS vC v : Value} {l : Fs} (hp : RefP w X bm room S P vL vS vC) (hb : Below w.heap.size w w1) (hr : RowF w1 P1 v l) (hP1 : ∀ n, P1 n → P n ∨ w.heap.size ≤ n)
    (hC : MC W bm room S.clock v v (.slice none 0 0)) (hT : Turned (fun n => n = bm) w1 W) : RStep w X bm room (S.clock, l, l, []) W := by
  have hbl : bm < w.heap.size := hp.lt _ hp.xb
  have hbs := hb.size
  have hne : ∀ n, P1 n ∧ n < w1.heap.size → ¬ n = bm := fun n hn hx => by
    rcases hP1 n hn.1 with h | h
    · exact (hp.sub n h).2 hx
    · omega
  have hR := (RowR.tight hr).kept hT hne
  refine ⟨fun n => X n ∨ (w.heap.size ≤ n ∧ n < w1.heap.size), ⟨fun n => P1 n ∧ n < w1.heap.size, v, v, .slice none 0 0, ⟨hC, hR, hR, RowR.nil _ _ _ _ _, .inl hp.xb, fun n hn => ⟨?_, hne n hn⟩, fun n hn => ?_⟩⟩, ?_, fun n hn => hn.elim .inl (fun h => .inr h.1)⟩
  · rcases hP1 n hn.1 with h | h
    · exact .inl (hp.sub n h).1
    · exact .inr ⟨h, hn.2⟩
  · have := hT.size
    rcases hn with h | h
    · have := hp.lt n h; omega
    · omega
  · exact ((turned_below hb).wider fun _ h => h.elim).trans (hT.wider fun n hn => by rw [hn]; exact hp.xb)

set_option maxRecDepth 100000 in
set_option maxHeartbeats 1000000 in
theorem rSync_good (bm : Nat) (X : Nat → Prop) (room : Int) (S : St) (w : World) (h : RefS w X bm room S) :
    Calls Tryz.prog 58 #[.pointer (some ⟨bm, 0, none⟩)] w fun r w' => r = .returned (.tuple #[]) ∧ RStep w X bm room (opS S) w' := by
  obtain ⟨P, vL, vS, vC, hp⟩ := id h
  obtain ⟨c0, c1, c2, c3, c4⟩ := hp.cells.cell
  have f3 := hp.cells.frozen 3
  have f4 := hp.cells.frozen 4
  obtain ⟨o, c, hv, _⟩ := RowR.shape hp.now (fun _ => rfl)
  have HS : Hid (RStep w X bm room (opS S) ((w.setCell ⟨bm, 3, none⟩ vL).setCell ⟨bm, 4, none⟩ (.slice none 0 0))) :=
    ref_ends hp (Below.refl _ _) hp.now (fun _ => .inl) ((hp.cells.set3 _).set4 _) ((Turned.setCell (X := fun n => n = bm) w ⟨bm, 3, none⟩ _ rfl).trans (Turned.setCell (X := fun n => n = bm) _ ⟨bm, 4, none⟩ _ rfl))
  obtain ⟨ln, hln⟩ : ∃ ln, ln = S.now.length := ⟨_, rfl⟩
  rw [← hln] at hv
  obtain ⟨T, hT⟩ : ∃ T, T = opS S := ⟨_, rfl⟩
  rw [← hT] at HS ⊢
  subst hv
  clear h hp hln hT
  go_enter Tryz.func58, Tryz.ntmps58
  go_wp2
  go_end0
  exact ⟨rfl, HS.out⟩

theorem rnew (w : World) (room : Int) : RefS (w.alloc (.cells #[.int .i64 room, .int .i64 0, .slice none 0 0, .slice none 0 0, .slice none 0 0] 78)) (fun n => n = w.heap.size) w.heap.size room (0, [], [], []) :=
  ⟨fun _ => False, _, _, _, ⟨World.alloc_heap_new w _, RowR.nil _ _ _ _ _, RowR.nil _ _ _ _ _, RowR.nil _ _ _ _ _, rfl, fun _ h => h.elim, fun n hn => by rw [hn]; simp⟩⟩
set_option maxRecDepth 100000 in
set_option maxHeartbeats 2000000 in
theorem rnew_ok (room : Int) (h0 : 1 ≤ room) (h1 : room ≤ 1073741824) (w : World) :
    Calls Tryz.prog 28 #[.int .i64 room] w fun r w' => r = .returned (.tuple #[.pointer (some ⟨w.heap.size, 0, none⟩), .int .i64 0]) ∧ RefS w' (fun n => n = w.heap.size) w.heap.size room (0, [], [], []) ∧ Below w.heap.size w w' := by
  have e1 : ¬ room < 1 := by omega
  have e2 : ¬ 1073741824 < room := by omega
  have HT := Lib.hid (rnew w room)
  go_enter Tryz.func28, Tryz.ntmps28
  go_wp2
  go_ret2
  exact ⟨rfl, HT.out, (Below.refl _ w).alloc (Nat.le_refl _) _⟩
set_option maxRecDepth 100000 in
set_option maxHeartbeats 2000000 in
theorem rnew_err (room : Int) (h : room < 1 ∨ 1073741824 < room) (w : World) :
    Calls Tryz.prog 28 #[.int .i64 room] w fun r w' => r = .returned (.tuple #[.pointer none, .int .i64 1]) ∧ w = w' := by
  by_cases h1 : room < 1
  · clear h
    go_enter Tryz.func28, Tryz.ntmps28
    go_wp2
    go_ret2
    exact ⟨rfl, rfl⟩
  · have h2 : 1073741824 < room := by omega
    clear h
    go_enter Tryz.func28, Tryz.ntmps28
    go_wp2
    go_ret2
    exact ⟨rfl, rfl⟩

end Go.Proofs.YtchnbnmajagpjaaGreatDoor

namespace Go.Proofs.YtchnbnmajagpjaaGreatDoor
open Go.RowKit Go.Shelf Go.Maps

theorem torn_rc {c : Ch} {part : Int} {kd : Int} {p s : ByteArray} {t : Int} (hch : rcCells c = [.int .i64 kd, .string p, .string s, .int .i64 t]) : rcCells (tornC c part) = [.int .i64 kd, .string p, .string (txt (s.data.toList.take part.toNat)), .int .i64 t] := by
  obtain ⟨k, pp, a, tt⟩ := c
  unfold rcCells at hch ⊢
  simp only [Ch.kind, Ch.path, Ch.arg, Ch.time, List.cons.injEq, Value.int.injEq, Value.string.injEq, true_and, and_true] at hch
  obtain ⟨h1, h2, h3, h4⟩ := hch
  show [Value.int .i64 ((k + 1 : Nat) : Int), .string (txt pp), .string (txt (a.take part.toNat)), .int .i64 (if k ≤ 1 then tt else 0)] = _
  rw [h1, h2, h4, ← h3, txt_data]

/-- How the document's tree stands in Crash. -/
def RcAt (w : World) (P : Nat → Prop) (l : Fs) (v : Value) (W : World) : Prop := (∃ o n c, v = .slice o n c) ∧ RowF W (fun n => P n ∨ w.heap.size ≤ n) v l ∧ Below w.heap.size w W

theorem RcAt.after {w W : World} {P : Nat → Prop} {l : Fs} {v : Value} {room : Int} (h : RcAt w P l v W) (c : Ch) (hl : FsOk room l) (hk : c.kind ≤ 3) (ha : c.arg.length ≤ 16777216) :
    Calls Tryz.prog 44 #[v, .agg (rcCells c).toArray] W fun e W' => ∃ o n k, e = .returned (.slice o n k) ∧ RcAt w P (after l c) (.slice o n k) W' := by
  refine (after_any v _ l c W h.2.1 (by have := hl.len; omega) hk (by omega) (fun y hy => by have := hl.texts y hy; omega)).mono ?_
  rintro e W' ⟨v', rfl, hr, hb'⟩
  have hs := h.2.2.size
  obtain ⟨o, cc, rfl, _⟩ := hr.shape (fun _ => rfl)
  exact ⟨o, _, cc, rfl, ⟨_, _, _, rfl⟩, hr.wider (fun n hn => hn.elim id (fun h => .inr (by omega))), h.2.2.trans (hb'.mono hs)⟩

theorem RcAt.ends {w W : World} {X P : Nat → Prop} {l : Fs} {v vL vS vC : Value} {bm : Nat} {room : Int} {S : St} (hp : RefP w X bm room S P vL vS vC) (h : RcAt w P l v W) :
    RStep w X bm room (S.clock, l, l, []) (((W.setCell ⟨bm, 2, none⟩ v).setCell ⟨bm, 3, none⟩ v).setCell ⟨bm, 4, none⟩ (.slice none 0 0)) := by
  have hC := hp.cells.below h.2.2 (hp.lt _ hp.xb)
  exact ref_ends hp h.2.2 h.2.1 (fun _ => id) (((hC.set2 v).set3 v).set4 _) (((Turned.setCell (X := fun n => n = bm) W ⟨bm, 2, none⟩ _ rfl).trans (Turned.setCell (X := fun n => n = bm) _ ⟨bm, 3, none⟩ _ rfl)).trans (Turned.setCell (X := fun n => n = bm) _ ⟨bm, 4, none⟩ _ rfl))

set_option maxRecDepth 100000 in
set_option maxHeartbeats 2000000 in
theorem rcrash_nil (bm : Nat) (X P : Nat → Prop) (many part room : Int) (n : Nat) (S : St) (vL vS : Value) (c : Nat) (w : World) (hp : RefP w X bm room S P vL vS (.slice none 0 c)) (_hg : Good room n S) (h0 : S.pend = []) :
    Calls Tryz.prog 18 #[.pointer (some ⟨bm, 0, none⟩), .int .i64 many, .int .i64 part] w fun r w' => r = .returned (.tuple #[]) ∧ RStep w X bm room (opC S many part) w' := by
  obtain ⟨c0, c1, c2, c3, c4⟩ := hp.cells.cell
  have f2 := hp.cells.frozen 2
  have f3 := hp.cells.frozen 3
  have f4 := hp.cells.frozen 4
  obtain ⟨o, cc, hv, _⟩ := RowR.shape hp.last (fun _ => rfl)
  have hcl : crashL S many part = S.last := by
    unfold crashL; rw [h0]; simp
  have hmin : max 0 (min many 0) = (0 : Int) := by omega
  have HS : Hid (RStep w X bm room (opC S many part) (((w.setCell ⟨bm, 2, none⟩ vS).setCell ⟨bm, 3, none⟩ vS).setCell ⟨bm, 4, none⟩ (.slice none 0 0))) := by
    show RStep _ _ _ _ _ _
    unfold opC; rw [hcl]
    exact RcAt.ends hp ⟨⟨_, _, _, hv⟩, hp.last.wider (fun _ => .inl), Below.refl _ _⟩
  obtain ⟨ln, hln⟩ : ∃ ln, ln = S.last.length := ⟨_, rfl⟩
  rw [← hln] at hv
  obtain ⟨T, hT⟩ : ∃ T, T = opC S many part := ⟨_, rfl⟩
  rw [← hT] at HS ⊢
  subst hv
  clear hp _hg hln hT hcl h0
  go_enter Tryz.func18, Tryz.ntmps18
  go_wp2
  go_loopw [8, 7] (fun i v wr => i = .int .i64 0 ∧ v = .slice o ln cc ∧ wr = w) (fun _ _ _ => 0)
  case atStart => exact ⟨rfl, rfl, rfl⟩
  case round =>
    obtain ⟨rfl, rfl, rfl⟩ := hrel
    go_wp2
    go_end0
    exact ⟨rfl, HS.out⟩

set_option maxRecDepth 100000 in
set_option maxHeartbeats 4000000 in
theorem rcrash_some (bm : Nat) (X P : Nat → Prop) (g c N : Nat) (many part room : Int) (n : Nat) (S : St) (vL vS : Value) (w : World) (hp : RefP w X bm room S P vL vS (.slice (some ⟨g, 0, none⟩) N c)) (hg : Good room n S) (hN : N = S.pend.length) (hNc : N ≤ c) (hcm : c ≤ maxLen) (m : Nat) (hmN : m ≤ N) (hmin : max 0 (min many (N : Int)) = (m : Int)) (hp2 : part < 9223372036854775808) :
    Calls Tryz.prog 18 #[.pointer (some ⟨bm, 0, none⟩), .int .i64 many, .int .i64 part] w fun r w' => r = .returned (.tuple #[]) ∧ RStep w X bm room (opC S many part) w' := by
  unfold maxLen at hcm
  obtain ⟨T, hT⟩ : ∃ T, T = opC S many part := ⟨_, rfl⟩
  rw [← hT]
  have HTQ := Lib.hid hT
  clear hT
  have hi3 : (N : Int) ≤ (c : Int) := by omega
  obtain ⟨c0, c1, c2, c3, c4⟩ := hp.cells.cell
  obtain ⟨o, cc, hv, hvq⟩ := RowR.shape hp.last (fun _ => rfl)
  clear hvq
  have hbm : bm < w.heap.size := hp.lt _ hp.xb
  have hcN : crashN S many = m := by unfold crashN; rw [← hN]; omega
  have HC : Hid (∀ W l v, RcAt w P l v W → W.cell? ⟨bm, 2, none⟩ = some vL ∧ W.cell? ⟨bm, 3, none⟩ = some vS ∧ W.cell? ⟨bm, 4, none⟩ = some (.slice (some ⟨g, 0, none⟩) N c) ∧ W.frozen? ⟨bm, 2, none⟩ = false ∧ W.frozen? ⟨bm, 3, none⟩ = false ∧ W.frozen? ⟨bm, 4, none⟩ = false) := fun W l v h => by
    have hC := hp.cells.below h.2.2 hbm
    exact ⟨hC.cell.2.2.1, hC.cell.2.2.2.1, hC.cell.2.2.2.2, hC.frozen 2, hC.frozen 3, hC.frozen 4⟩
  have HE : Hid (∀ W l v, RcAt w P l v W → RStep w X bm room (S.clock, l, l, []) (((W.setCell ⟨bm, 2, none⟩ v).setCell ⟨bm, 3, none⟩ v).setCell ⟨bm, 4, none⟩ (.slice none 0 0))) := fun W l v h => RcAt.ends hp h
  have HR : Hid (∀ W l v, RcAt w P l v W → ∀ i (hi : i < S.pend.length) j, j < 4 → W.cell? ⟨g, i * 4 + j, none⟩ = (rcCells S.pend[i])[j]?) := by
    intro W l v h i hi j hj
    obtain ⟨o, c', hv, _, _, _, hcs⟩ := (hp.below h.2.2).row.shape (fun _ => rfl)
    obtain ⟨g', hg', hc⟩ := hcs i S.pend[i] (List.getElem?_eq_getElem hi)
    rw [← hN] at hv
    cases hv
    cases hg'
    exact hc j hj
  have HA : Hid (∀ k (hk : k < S.pend.length) v W, RcAt w P ((S.pend.take k).foldl after S.last) v W → Calls Tryz.prog 44 #[v, .agg (rcCells S.pend[k]).toArray] W fun e W' => ∃ o n q, e = .returned (.slice o n q) ∧ RcAt w P ((S.pend.take (k + 1)).foldl after S.last) (.slice o n q) W') := by
    intro k hk v W h
    have hok := hg.run.at k _ (List.getElem?_eq_getElem hk)
    have := h.after (room := room) S.pend[k] (hg.run.take k) hok.kind hok.arg
    rw [← fold_take hk] at this
    exact this
  have HT : Hid (∀ (hk : m < S.pend.length) v W, RcAt w P ((S.pend.take m).foldl after S.last) v W → Calls Tryz.prog 44 #[v, .agg (rcCells (tornC S.pend[m] part)).toArray] W fun e W' => ∃ o n q, e = .returned (.slice o n q) ∧ RcAt w P (after ((S.pend.take m).foldl after S.last) (tornC S.pend[m] part)) (.slice o n q) W') := by
    intro hk v W h
    have hok := hg.run.at m _ (List.getElem?_eq_getElem hk)
    refine h.after (room := room) (tornC S.pend[m] part) (hg.run.take m) hok.kind ?_
    have h1 := hok.arg
    show (S.pend[m].arg.take part.toNat).length ≤ _
    rw [List.length_take]; omega
  have HG : Hid (∀ k c, S.pend[k]? = some c → ChOk ((S.pend.take k).foldl after S.last) c) := hg.run.at
  have HNL := Lib.hid hN
  have HM := Lib.hid hcN
  have hz0 : RcAt w P S.last vS w := ⟨⟨_, _, _, hv⟩, hp.last.wider (fun _ => .inl), Below.refl _ _⟩
  obtain ⟨ln, hln⟩ : ∃ ln, ln = S.last.length := ⟨_, rfl⟩
  rw [← hln] at hv
  subst hv
  clear hp hg hln hN hcN
  go_enter Tryz.func18, Tryz.ntmps18
  go_wp2
  clear c0 c1 c2 c3 c4
  go_loopw [8, 7] (fun i v wr => ∃ k : Nat, k ≤ m ∧ i = .int .i64 k ∧ RcAt w P ((S.pend.take k).foldl after S.last) v wr) (fun i _ _ => m - (intOf i).toNat)
  case atStart => exact ⟨0, Nat.zero_le _, rfl, hz0⟩
  case round =>
    obtain ⟨k, hk, rfl, hcr⟩ := hrel
    obtain ⟨c2, c3, c4, f2, f3, f4⟩ := HC.out _ _ _ hcr
    obtain ⟨⟨o1, n1, q1, rfl⟩, _⟩ := id hcr
    by_cases hlt2 : k < m
    · have hkl : k < S.pend.length := by have := HNL.out; omega
      obtain ⟨kd, p, s, t, hch⟩ : ∃ (kd : Int) (p s : ByteArray) (t : Int), rcCells S.pend[k] = [.int .i64 kd, .string p, .string s, .int .i64 t] := ⟨_, _, _, _, rfl⟩
      have hcs : ∀ j, j < 4 → wr.cell? ⟨g, k * 4 + j, none⟩ = ([.int .i64 kd, .string p, .string s, .int .i64 t] : List Value)[j]? := fun j hj => by rw [HR.out _ _ _ hcr k hkl j hj, hch]
      have e0 : wr.cell? ⟨g, k * 4, none⟩ = some (.int .i64 kd) := hcs 0 (by omega)
      have e1 : wr.cell? ⟨g, k * 4 + 1, none⟩ = some (.string p) := hcs 1 (by omega)
      have e2 : wr.cell? ⟨g, k * 4 + 2, none⟩ = some (.string s) := hcs 2 (by omega)
      have e3 : wr.cell? ⟨g, k * 4 + 3, none⟩ = some (.int .i64 t) := hcs 3 (by omega)
      have hAk := HA.out k hkl _ _ hcr
      rw [hch] at hAk
      have HAk := Lib.hid hAk
      have hi5 : (k : Int) < (m : Int) := by omega
      have hi6 : (0 : Int) ≤ (k : Int) := by omega
      have hi7 : (k : Int) < (N : Int) := by omega
      clear hAk hcs hch hcr HA HT HR HC HE HG
      go_wp2_with (go_at_call 44; refine (HAk.out).mono ?_; rintro r w3 ⟨o3, n3, q3, rfl, hcr3⟩)
      go_roundw
      case rel => exact ⟨k + 1, hlt2, by go_num, hcr3⟩
      case measure => simp [intOf]; omega
    · have hkm : k = m := by omega
      subst hkm
      have hi6 : (0 : Int) ≤ (k : Int) := by omega
      by_cases hmn2 : k < N
      · have hml : k < S.pend.length := by have := HNL.out; omega
        have hi7 : (k : Int) < (N : Int) := by omega
        obtain ⟨kd, p, s, t, hch⟩ : ∃ (kd : Int) (p s : ByteArray) (t : Int), rcCells S.pend[k] = [.int .i64 kd, .string p, .string s, .int .i64 t] := ⟨_, _, _, _, rfl⟩
        have hcs : ∀ j, j < 4 → wr.cell? ⟨g, k * 4 + j, none⟩ = ([.int .i64 kd, .string p, .string s, .int .i64 t] : List Value)[j]? := fun j hj => by rw [HR.out _ _ _ hcr k hml j hj, hch]
        have e0 : wr.cell? ⟨g, k * 4, none⟩ = some (.int .i64 kd) := hcs 0 (by omega)
        have e1 : wr.cell? ⟨g, k * 4 + 1, none⟩ = some (.string p) := hcs 1 (by omega)
        have e2 : wr.cell? ⟨g, k * 4 + 2, none⟩ = some (.string s) := hcs 2 (by omega)
        have e3 : wr.cell? ⟨g, k * 4 + 3, none⟩ = some (.int .i64 t) := hcs 3 (by omega)
        have hget : S.pend[k]? = some S.pend[k] := List.getElem?_eq_getElem hml
        have hok := HG.out k _ hget
        have hkd : ((S.pend[k].kind + 1 : Nat) : Int) = kd := by
          have := congrArg (fun l => l[0]?) hch
          simpa [rcCells] using this
        by_cases hk1 : kd ≤ 2
        · by_cases hpart : 1 ≤ part
          · have hTk := HT.out hml
            rw [torn_rc hch] at hTk
            have hfin := crash_torn (part := part) HM.out hget hpart (by omega)
            have hsz : s.size ≤ 16777216 := by
              have h3 : txt S.pend[k].arg = s := by
                have := congrArg (fun l => l[2]?) hch
                simpa [rcCells] using this
              rw [← h3, txt_size]; exact hok.arg
            obtain ⟨mm, hmm⟩ : ∃ mm : Nat, mm = min part.toNat s.size := ⟨_, rfl⟩
            have hmin2 : min part (s.size : Int) = (mm : Int) := by omega
            have hms : mm ≤ s.size := by omega
            have hj1 : (0 : Int) ≤ (mm : Int) := by omega
            have hj2 : (mm : Int) ≤ (s.size : Int) := by omega
            have htx : txt (s.data.toList.take part.toNat) = s.extract 0 mm := by
              rw [extract_txt, List.drop_zero, Nat.sub_zero, hmm]
              congr 1
              rw [← size_list s, List.take_eq_take_iff]
              omega
            rw [htx] at hTk
            obtain ⟨lo, hlo⟩ : ∃ lo, lo = (S.pend.take k).foldl after S.last := ⟨_, rfl⟩
            rw [← hfin, ← hlo] at hTk
            rw [← hlo] at hcr
            have HTk : Hid (∀ w5 : World, Below wr.heap.size wr w5 → Calls Tryz.prog 44 #[.slice o1 n1 q1, .agg #[.int .i64 kd, .string p, .string (s.extract 0 mm), .int .i64 t]] w5 fun e W' => ∃ o5 n5 q5, e = .returned (.slice o5 n5 q5) ∧ RcAt w P (crashL S many part) (.slice o5 n5 q5) W' ∧ RStep w X bm room T (((W'.setCell ⟨bm, 2, none⟩ (.slice o5 n5 q5)).setCell ⟨bm, 3, none⟩ (.slice o5 n5 q5)).setCell ⟨bm, 4, none⟩ (.slice none 0 0)) ∧ W'.cell? ⟨bm, 2, none⟩ = some vL ∧ W'.cell? ⟨bm, 3, none⟩ = some (.slice o ln cc) ∧ W'.cell? ⟨bm, 4, none⟩ = some (.slice (some ⟨g, 0, none⟩) N c) ∧ W'.frozen? ⟨bm, 2, none⟩ = false ∧ W'.frozen? ⟨bm, 3, none⟩ = false ∧ W'.frozen? ⟨bm, 4, none⟩ = false) := by
              intro w5 hb
              refine (hTk _ _ ⟨⟨_, _, _, rfl⟩, hcr.2.1.below hb (Nat.le_refl _), hcr.2.2.trans (hb.mono hcr.2.2.size)⟩).mono ?_
              rintro e W' ⟨o5, n5, q5, rfl, hh⟩
              exact ⟨o5, n5, q5, rfl, hh, by rw [HTQ.out]; exact HE.out _ _ _ hh, HC.out _ _ _ hh⟩
            clear hTk hcs hch HA HT HR HC HE HG hget hok hkd hfin hlo htx hmm hcr HNL HM HTQ hz0
            go_wp2_with (go_at_call 44; refine (HTk.out _ ((Below.refl _ wr).alloc (Nat.le_refl _) _)).mono ?_; rintro r w6 ⟨o5, n5, q5, rfl, hh, hst, d2, d3, d4, g2, g3, g4⟩)
            go_end0
            exact ⟨rfl, hst⟩
          · have hq := crash_none (part := part) HM.out (.inr ⟨_, hget, fun h => hpart h.1⟩)
            have HST : Hid (RStep w X bm room T (((wr.setCell ⟨bm, 2, none⟩ (.slice o1 n1 q1)).setCell ⟨bm, 3, none⟩ (.slice o1 n1 q1)).setCell ⟨bm, 4, none⟩ (.slice none 0 0))) := by
              show RStep _ _ _ _ _ _
              rw [HTQ.out]; unfold opC; rw [hq]; exact HE.out _ _ _ hcr
            clear hcs hch HA HT HR HC HE HG hget hok hkd hq hcr HNL HM HTQ hz0
            go_wp2
            go_end0
            exact ⟨rfl, HST.out⟩
        · have hq := crash_none (part := part) HM.out (.inr ⟨_, hget, fun h => hk1 (by have := h.2; omega)⟩)
          have HST : Hid (RStep w X bm room T (((wr.setCell ⟨bm, 2, none⟩ (.slice o1 n1 q1)).setCell ⟨bm, 3, none⟩ (.slice o1 n1 q1)).setCell ⟨bm, 4, none⟩ (.slice none 0 0))) := by
            show RStep _ _ _ _ _ _
            rw [HTQ.out]; unfold opC; rw [hq]; exact HE.out _ _ _ hcr
          clear hcs hch HA HT HR HC HE HG hget hok hkd hq hcr HNL HM HTQ hz0
          go_wp2
          go_end0
          exact ⟨rfl, HST.out⟩
      · have hget : S.pend[k]? = none := List.getElem?_eq_none (by have := HNL.out; omega)
        have hq := crash_none (part := part) HM.out (.inl hget)
        have HST : Hid (RStep w X bm room T (((wr.setCell ⟨bm, 2, none⟩ (.slice o1 n1 q1)).setCell ⟨bm, 3, none⟩ (.slice o1 n1 q1)).setCell ⟨bm, 4, none⟩ (.slice none 0 0))) := by
          show RStep _ _ _ _ _ _
          rw [HTQ.out]; unfold opC; rw [hq]; exact HE.out _ _ _ hcr
        clear HA HT HR HC HE HG hget hq hcr HNL HM HTQ hz0
        go_wp2
        go_end0
        exact ⟨rfl, HST.out⟩

/-- What Crash leaves of any tree of the document's. -/
theorem rCrash_good (bm : Nat) (X : Nat → Prop) (many part room : Int) (n : Nat) (S : St) (w : World) (h : RefS w X bm room S) (hg : Good room n S) (hp2 : part < 9223372036854775808) :
    Calls Tryz.prog 18 #[.pointer (some ⟨bm, 0, none⟩), .int .i64 many, .int .i64 part] w fun r w' => r = .returned (.tuple #[]) ∧ RStep w X bm room (opC S many part) w' := by
  obtain ⟨P, vL, vS, vC, hp⟩ := h
  obtain ⟨o, c, rfl, q1, q2, q3, q4⟩ := hp.row.shape (fun _ => rfl)
  cases o with
  | none =>
    have hp0 : S.pend = [] := by
      cases he : S.pend with
      | nil => rfl
      | cons x r => obtain ⟨g, hg, _⟩ := q4 0 x (by rw [he]; rfl); cases hg
    rw [hp0] at hp
    exact rcrash_nil bm X P many part room n S vL vS c w hp hg hp0
  | some a =>
    obtain ⟨g, rfl, _⟩ := q3 a rfl
    obtain ⟨m, hm⟩ : ∃ m : Nat, max 0 (min many (S.pend.length : Int)) = (m : Int) := ⟨(max 0 (min many (S.pend.length : Int))).toNat, by omega⟩
    exact rcrash_some bm X P g c S.pend.length many part room n S vL vS w hp hg rfl q1 q2 m (by omega) hm hp2

end Go.Proofs.YtchnbnmajagpjaaGreatDoor
