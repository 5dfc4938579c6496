/-
  The document's own after: files behind a change. For any row, any change.
-/
import Derived.Deep.RegionHeld3
import Derived.Test.YtginlknlkbhgaaaFRef2
namespace Go.Proofs.Ytginlknlkbhgaaa
open Go.RowKit Go.Shelf Go.Maps

theorem find_none (v : Value) (P : Nat → Prop) (l : Fs) (p : ByteArray) (w : World) (h : RowF w P v l) (hln : l.length < 1073741824) (hl : look l p.data.toList = none) : Calls Try.prog 49 #[v, .string p] w fun e w' => e = .returned (.int .i64 (-1)) ∧ w = w' := by
  refine (refFind_any v P l p w h hln).mono ?_
  rintro e w' ⟨⟨i, rfl, hf⟩, rfl⟩
  rcases hf with ⟨rfl, _⟩ | ⟨k, u, _, _, hu⟩
  · exact ⟨rfl, rfl⟩
  · rw [hl] at hu; cases hu
theorem find_hit (v : Value) (P : Nat → Prop) (l : Fs) (p : ByteArray) (w : World) (h : RowF w P v l) (hln : l.length < 1073741824) {u : FD} (hl : look l p.data.toList = some u) : Calls Try.prog 49 #[v, .string p] w fun e w' => ∃ k : Nat, e = .returned (.int .i64 k) ∧ l[k]? = some (p.data.toList, u) ∧ w = w' := by
  refine (refFind_any v P l p w h hln).mono ?_
  rintro e w' ⟨⟨i, rfl, hf⟩, rfl⟩
  rcases hf with ⟨_, hn⟩ | ⟨k, u', rfl, hk, hu⟩
  · rw [hl] at hn; cases hn
  · rw [hl] at hu; cases hu
    exact ⟨k, rfl, hk, rfl⟩

theorem RowR.below {α : Type} {E : TypeId} {k : Nat} {enc : α → List Value} {w w' : World} {P : Nat → Prop} {v : Value} {l : List α} {B : Nat} (h : RowR E k enc w P v l) (hb : Below B w w') (hB : w.heap.size ≤ B) : RowR E k enc w' P v l :=
  by
    refine ⟨⟨h.1.1, ?_⟩, h.2⟩
    rcases h.1.2 with hn | ⟨g, cap, cur, r1, r2, r3, r4⟩
    · exact .inl hn
    · exact .inr ⟨g, cap, cur, r1, r2, (hb.block g (Nat.lt_of_lt_of_le (Array.getElem?_eq_some_iff.1 r3).1 hB)).trans r3, r4⟩

theorem after3_some {l : Fs} {p a : BS} {t : Int} {v : FD} (h : look l p = some v) : after l (3, p, a, t) = put (a, v) (drp p l) := by
  unfold after
  rw [if_neg (show ¬ (3 : Nat) = 0 by decide), if_neg (show ¬ (3 : Nat) = 1 by decide), if_neg (show ¬ (3 : Nat) = 2 by decide)]
  show (match look l p with | none => l | some v => put (a, v) (drp p l)) = _
  rw [h]

/-- How after answers. -/
def AfterP (P : Nat → Prop) (l' : Fs) (w : World) (e : Ending) (w' : World) : Prop := ∃ v', e = .returned v' ∧ RowF w' (fun n => P n ∨ w.heap.size ≤ n) v' l' ∧ Below w.heap.size w w'

set_option maxRecDepth 100000 in
set_option maxHeartbeats 800000 in
theorem after0_none (v : Value) (P : Nat → Prop) (l : Fs) (p s : ByteArray) (t : Int) (w : World) (h : RowF w P v l) (hln : l.length < 1073741824) (hl : look l p.data.toList = none) (_hs1 : s.size ≤ 1073741824)  :
    Calls Try.prog 60 #[v, .agg #[.int .i64 1, .string p, .string s, .int .i64 t]] w fun e w' => AfterP P (after l (0, p.data.toList, s.data.toList, t)) w e w' := by
  have hB : Below w.heap.size w (w.alloc (.cells #[.int .i64 1, .string p, .string s, .int .i64 t] 97)) := (Below.refl _ w).alloc (Nat.le_refl _) _
  have hrow := h.kept (turned_below hB) (fun _ _ => id)
  have hs : (w.alloc (.cells #[.int .i64 1, .string p, .string s, .int .i64 t] 97)).heap.size = w.heap.size + 1 := by simp
  have HF := Lib.hid (find_none v P l p _ hrow hln hl)
  have HP := Lib.hid (put_any v P l p s t (w.alloc (.cells #[.int .i64 1, .string p, .string s, .int .i64 t] 97)) hrow hln)
  clear h hrow hl
  go_enter Try.func60, Try.ntmps60
  go_wp2_with (first
    | (go_at_call 49; refine (HF.out).mono ?_; rintro e w1 ⟨rfl, rfl⟩)
    | (go_at_call 73; refine (HP.out).mono ?_; rintro e w2 ⟨v2, rfl, hr2, hb2⟩))
  go_ret
  refine ⟨_, rfl, ?_, hB.trans (hb2.mono (by simp))⟩
  exact hr2.wider (fun n hn => .inr (by simp at hn; omega))

set_option maxRecDepth 100000 in
set_option maxHeartbeats 800000 in
theorem after0_hit (v : Value) (P : Nat → Prop) (l : Fs) (p s : ByteArray) (t : Int) (w : World) (h : RowF w P v l) (hln : l.length < 1073741824) (u : FD) (hl : look l p.data.toList = some u) (_hs1 : s.size ≤ 1073741824) (hu1 : u.1.length ≤ 1073741824) :
    Calls Try.prog 60 #[v, .agg #[.int .i64 1, .string p, .string s, .int .i64 t]] w fun e w' => AfterP P (after l (0, p.data.toList, s.data.toList, t)) w e w' := by
  have hB : Below w.heap.size w (w.alloc (.cells #[.int .i64 1, .string p, .string s, .int .i64 t] 97)) := (Below.refl _ w).alloc (Nat.le_refl _) _
  have hrow := h.kept (turned_below hB) (fun _ _ => id)
  have hs : (w.alloc (.cells #[.int .i64 1, .string p, .string s, .int .i64 t] 97)).heap.size = w.heap.size + 1 := by simp
  have HF := Lib.hid (find_hit v P l p _ hrow hln hl)
  have hcells := hrow.cells
  obtain ⟨ut, um⟩ := u
  obtain ⟨st, hst⟩ : ∃ st : ByteArray, st = txt ut := ⟨_, rfl⟩
  have hstd : st.data.toList = ut := by rw [hst, txt_data]
  have hsts : st.size ≤ 1073741824 := by rw [← size_list, hstd]; exact hu1
  rcases hcells with ⟨hl0, _⟩ | ⟨g, c, hv, hPg, hgl, hc⟩
  · rw [hl0] at hl; cases hl
  subst hv
  have HC : Hid (∀ wq, Below (w.alloc (.cells #[.int .i64 1, .string p, .string s, .int .i64 t] 97)).heap.size (w.alloc (.cells #[.int .i64 1, .string p, .string s, .int .i64 t] 97)) wq → ∀ k : Nat, l[k]? = some (p.data.toList, ut, um) → wq.cell? ⟨g, k * 3 + 1, none⟩ = some (.string st) ∧ wq.cell? ⟨g, k * 3 + 2, none⟩ = some (.int .i64 um)) := by
    intro wq hb k hk
    obtain ⟨_, h1, h2⟩ := (hc.below hb hgl) k _ hk
    exact ⟨by rw [hst]; exact h1, h2⟩
  clear hst
  have HP := Lib.hid (put_any (.slice (some ⟨g, 0, none⟩) l.length c) P l p s t (w.alloc (.cells #[.int .i64 1, .string p, .string s, .int .i64 t] 97)) hrow hln)
  clear h hrow hl hstd hc
  go_enter Try.func60, Try.ntmps60
  go_wp2_with (first
    | (go_at_call 49; refine (HF.out).mono ?_; rintro e w1 ⟨k, rfl, hk, rfl⟩; have e1 := (HC.out _ (Below.refl _ _) k hk).1; have hkl := (List.getElem?_eq_some_iff.1 hk).1; have hi0 : ¬ ((k : Int) < 0) := (by omega); have hi1 : (0 : Int) ≤ (k : Int) := (by omega); have hi2 : (k : Int) < (l.length : Int) := (by omega); clear hk)
    | (go_at_call 73; refine (HP.out).mono ?_; rintro e w2 ⟨v2, rfl, hr2, hb2⟩))
  go_ret
  refine ⟨_, rfl, ?_, hB.trans (hb2.mono (by simp))⟩
  exact hr2.wider (fun n hn => .inr (by simp at hn; omega))

set_option maxRecDepth 100000 in
set_option maxHeartbeats 800000 in
theorem after1_none (v : Value) (P : Nat → Prop) (l : Fs) (p s : ByteArray) (t : Int) (w : World) (h : RowF w P v l) (hln : l.length < 1073741824) (hl : look l p.data.toList = none) (hs1 : s.size ≤ 1073741824)  :
    Calls Try.prog 60 #[v, .agg #[.int .i64 2, .string p, .string s, .int .i64 t]] w fun e w' => AfterP P (after l (1, p.data.toList, s.data.toList, t)) w e w' := by
  have hB : Below w.heap.size w (w.alloc (.cells #[.int .i64 2, .string p, .string s, .int .i64 t] 97)) := (Below.refl _ w).alloc (Nat.le_refl _) _
  have hrow := h.kept (turned_below hB) (fun _ _ => id)
  have hs : (w.alloc (.cells #[.int .i64 2, .string p, .string s, .int .i64 t] 97)).heap.size = w.heap.size + 1 := by simp
  have HF := Lib.hid (find_none v P l p _ hrow hln hl)
  have HP : Hid (∀ tx : ByteArray, tx.data.toList = s.data.toList → Calls Try.prog 73 #[v, .agg #[.string p, .string tx, .int .i64 t]] (w.alloc (.cells #[.int .i64 2, .string p, .string s, .int .i64 t] 97)) fun e w' => ∃ v', e = .returned v' ∧ RowF w' (fun n => (w.alloc (.cells #[.int .i64 2, .string p, .string s, .int .i64 t] 97)).heap.size ≤ n) v' (put (p.data.toList, s.data.toList, t) l) ∧ Below (w.alloc (.cells #[.int .i64 2, .string p, .string s, .int .i64 t] 97)).heap.size (w.alloc (.cells #[.int .i64 2, .string p, .string s, .int .i64 t] 97)) w') := by
    intro tx htx
    have := put_any v P l p tx t (w.alloc (.cells #[.int .i64 2, .string p, .string s, .int .i64 t] 97)) hrow hln
    rwa [htx] at this
  have htx : s.data.toList = textOf l p.data.toList ++ s.data.toList := by
    unfold textOf
    rw [hl]
    rfl
  have HTX := Lib.hid htx
  have hbig : ¬ 9223372036854775807 < ((0 : Nat) : Int) + (s.size : Int) := by omega
  have hbig2 : ¬ 9223372036854775807 < 0 + s.size := by omega
  clear htx
  clear h hrow hl
  go_enter Try.func60, Try.ntmps60
  go_wp2_with (first
    | (go_at_call 49; refine (HF.out).mono ?_; rintro e w1 ⟨rfl, rfl⟩)
    | (go_at_call 73; refine (HP.out _ (by simp [ByteArray.data_append])).mono ?_; rintro e w2 ⟨v2, rfl, hr2, hb2⟩))
  go_ret
  refine ⟨_, rfl, ?_, hB.trans (hb2.mono (by simp))⟩
  rw [after1, ← HTX.out]
  exact hr2.wider (fun n hn => .inr (by simp at hn; omega))

set_option maxRecDepth 100000 in
set_option maxHeartbeats 800000 in
theorem after1_hit (v : Value) (P : Nat → Prop) (l : Fs) (p s : ByteArray) (t : Int) (w : World) (h : RowF w P v l) (hln : l.length < 1073741824) (u : FD) (hl : look l p.data.toList = some u) (hs1 : s.size ≤ 1073741824) (hu1 : u.1.length ≤ 1073741824) :
    Calls Try.prog 60 #[v, .agg #[.int .i64 2, .string p, .string s, .int .i64 t]] w fun e w' => AfterP P (after l (1, p.data.toList, s.data.toList, t)) w e w' := by
  have hB : Below w.heap.size w (w.alloc (.cells #[.int .i64 2, .string p, .string s, .int .i64 t] 97)) := (Below.refl _ w).alloc (Nat.le_refl _) _
  have hrow := h.kept (turned_below hB) (fun _ _ => id)
  have hs : (w.alloc (.cells #[.int .i64 2, .string p, .string s, .int .i64 t] 97)).heap.size = w.heap.size + 1 := by simp
  have HF := Lib.hid (find_hit v P l p _ hrow hln hl)
  have hcells := hrow.cells
  obtain ⟨ut, um⟩ := u
  obtain ⟨st, hst⟩ : ∃ st : ByteArray, st = txt ut := ⟨_, rfl⟩
  have hstd : st.data.toList = ut := by rw [hst, txt_data]
  have hsts : st.size ≤ 1073741824 := by rw [← size_list, hstd]; exact hu1
  rcases hcells with ⟨hl0, _⟩ | ⟨g, c, hv, hPg, hgl, hc⟩
  · rw [hl0] at hl; cases hl
  subst hv
  have HC : Hid (∀ wq, Below (w.alloc (.cells #[.int .i64 2, .string p, .string s, .int .i64 t] 97)).heap.size (w.alloc (.cells #[.int .i64 2, .string p, .string s, .int .i64 t] 97)) wq → ∀ k : Nat, l[k]? = some (p.data.toList, ut, um) → wq.cell? ⟨g, k * 3 + 1, none⟩ = some (.string st) ∧ wq.cell? ⟨g, k * 3 + 2, none⟩ = some (.int .i64 um)) := by
    intro wq hb k hk
    obtain ⟨_, h1, h2⟩ := (hc.below hb hgl) k _ hk
    exact ⟨by rw [hst]; exact h1, h2⟩
  clear hst
  have HP : Hid (∀ tx : ByteArray, tx.data.toList = st.data.toList ++ s.data.toList → Calls Try.prog 73 #[(.slice (some ⟨g, 0, none⟩) l.length c), .agg #[.string p, .string tx, .int .i64 t]] (w.alloc (.cells #[.int .i64 2, .string p, .string s, .int .i64 t] 97)) fun e w' => ∃ v', e = .returned v' ∧ RowF w' (fun n => (w.alloc (.cells #[.int .i64 2, .string p, .string s, .int .i64 t] 97)).heap.size ≤ n) v' (put (p.data.toList, st.data.toList ++ s.data.toList, t) l) ∧ Below (w.alloc (.cells #[.int .i64 2, .string p, .string s, .int .i64 t] 97)).heap.size (w.alloc (.cells #[.int .i64 2, .string p, .string s, .int .i64 t] 97)) w') := by
    intro tx htx
    have := put_any (.slice (some ⟨g, 0, none⟩) l.length c) P l p tx t (w.alloc (.cells #[.int .i64 2, .string p, .string s, .int .i64 t] 97)) hrow hln
    rwa [htx] at this
  have htx : st.data.toList ++ s.data.toList = textOf l p.data.toList ++ s.data.toList := by
    unfold textOf
    rw [hl]
    show _ = ut ++ _
    rw [hstd]
  have HTX := Lib.hid htx
  have hbig : ¬ 9223372036854775807 < (st.size : Int) + (s.size : Int) := by omega
  have hbig2 : ¬ 9223372036854775807 < st.size + s.size := by omega
  clear htx
  clear h hrow hl hstd hc
  go_enter Try.func60, Try.ntmps60
  go_wp2_with (first
    | (go_at_call 49; refine (HF.out).mono ?_; rintro e w1 ⟨k, rfl, hk, rfl⟩; have e1 := (HC.out _ (Below.refl _ _) k hk).1; have hkl := (List.getElem?_eq_some_iff.1 hk).1; have hi0 : ¬ ((k : Int) < 0) := (by omega); have hi1 : (0 : Int) ≤ (k : Int) := (by omega); have hi2 : (k : Int) < (l.length : Int) := (by omega); clear hk)
    | (go_at_call 73; refine (HP.out _ (by rw [ByteArray.data_append, Array.toList_append])).mono ?_; rintro e w2 ⟨v2, rfl, hr2, hb2⟩))
  go_ret
  refine ⟨_, rfl, ?_, hB.trans (hb2.mono (by simp))⟩
  rw [after1, ← HTX.out]
  exact hr2.wider (fun n hn => .inr (by simp at hn; omega))

set_option maxRecDepth 100000 in
set_option maxHeartbeats 800000 in
theorem after2_none (v : Value) (P : Nat → Prop) (l : Fs) (p s : ByteArray) (t : Int) (w : World) (h : RowF w P v l) (hln : l.length < 1073741824) (hl : look l p.data.toList = none) (_hs1 : s.size ≤ 1073741824)  :
    Calls Try.prog 60 #[v, .agg #[.int .i64 3, .string p, .string s, .int .i64 t]] w fun e w' => AfterP P (after l (2, p.data.toList, s.data.toList, t)) w e w' := by
  have hB : Below w.heap.size w (w.alloc (.cells #[.int .i64 3, .string p, .string s, .int .i64 t] 97)) := (Below.refl _ w).alloc (Nat.le_refl _) _
  have hrow := h.kept (turned_below hB) (fun _ _ => id)
  have hs : (w.alloc (.cells #[.int .i64 3, .string p, .string s, .int .i64 t] 97)).heap.size = w.heap.size + 1 := by simp
  have HF := Lib.hid (find_none v P l p _ hrow hln hl)
  have HP := Lib.hid (drop_any v P l p (w.alloc (.cells #[.int .i64 3, .string p, .string s, .int .i64 t] 97)) hrow hln)
  clear h hrow hl
  go_enter Try.func60, Try.ntmps60
  go_wp2_with (first
    | (go_at_call 49; refine (HF.out).mono ?_; rintro e w1 ⟨rfl, rfl⟩)
    | (go_at_call 59; refine (HP.out).mono ?_; rintro e w2 ⟨v2, rfl, hr2, hb2⟩))
  go_ret
  exact ⟨_, rfl, hr2.wider (fun n hn => .inr (by simp at hn; omega)), hB.trans (hb2.mono (by simp))⟩

set_option maxRecDepth 100000 in
set_option maxHeartbeats 800000 in
theorem after2_hit (v : Value) (P : Nat → Prop) (l : Fs) (p s : ByteArray) (t : Int) (w : World) (h : RowF w P v l) (hln : l.length < 1073741824) (u : FD) (hl : look l p.data.toList = some u) (_hs1 : s.size ≤ 1073741824) (hu1 : u.1.length ≤ 1073741824) :
    Calls Try.prog 60 #[v, .agg #[.int .i64 3, .string p, .string s, .int .i64 t]] w fun e w' => AfterP P (after l (2, p.data.toList, s.data.toList, t)) w e w' := by
  have hB : Below w.heap.size w (w.alloc (.cells #[.int .i64 3, .string p, .string s, .int .i64 t] 97)) := (Below.refl _ w).alloc (Nat.le_refl _) _
  have hrow := h.kept (turned_below hB) (fun _ _ => id)
  have hs : (w.alloc (.cells #[.int .i64 3, .string p, .string s, .int .i64 t] 97)).heap.size = w.heap.size + 1 := by simp
  have HF := Lib.hid (find_hit v P l p _ hrow hln hl)
  have hcells := hrow.cells
  obtain ⟨ut, um⟩ := u
  obtain ⟨st, hst⟩ : ∃ st : ByteArray, st = txt ut := ⟨_, rfl⟩
  have hstd : st.data.toList = ut := by rw [hst, txt_data]
  have hsts : st.size ≤ 1073741824 := by rw [← size_list, hstd]; exact hu1
  rcases hcells with ⟨hl0, _⟩ | ⟨g, c, hv, hPg, hgl, hc⟩
  · rw [hl0] at hl; cases hl
  subst hv
  have HC : Hid (∀ wq, Below (w.alloc (.cells #[.int .i64 3, .string p, .string s, .int .i64 t] 97)).heap.size (w.alloc (.cells #[.int .i64 3, .string p, .string s, .int .i64 t] 97)) wq → ∀ k : Nat, l[k]? = some (p.data.toList, ut, um) → wq.cell? ⟨g, k * 3 + 1, none⟩ = some (.string st) ∧ wq.cell? ⟨g, k * 3 + 2, none⟩ = some (.int .i64 um)) := by
    intro wq hb k hk
    obtain ⟨_, h1, h2⟩ := (hc.below hb hgl) k _ hk
    exact ⟨by rw [hst]; exact h1, h2⟩
  clear hst
  have HP := Lib.hid (drop_any (.slice (some ⟨g, 0, none⟩) l.length c) P l p (w.alloc (.cells #[.int .i64 3, .string p, .string s, .int .i64 t] 97)) hrow hln)
  clear h hrow hl hstd hc
  go_enter Try.func60, Try.ntmps60
  go_wp2_with (first
    | (go_at_call 49; refine (HF.out).mono ?_; rintro e w1 ⟨k, rfl, hk, rfl⟩; have e1 := (HC.out _ (Below.refl _ _) k hk).1; have hkl := (List.getElem?_eq_some_iff.1 hk).1; have hi0 : ¬ ((k : Int) < 0) := (by omega); have hi1 : (0 : Int) ≤ (k : Int) := (by omega); have hi2 : (k : Int) < (l.length : Int) := (by omega); clear hk)
    | (go_at_call 59; refine (HP.out).mono ?_; rintro e w2 ⟨v2, rfl, hr2, hb2⟩))
  go_ret
  exact ⟨_, rfl, hr2.wider (fun n hn => .inr (by simp at hn; omega)), hB.trans (hb2.mono (by simp))⟩

set_option maxRecDepth 100000 in
set_option maxHeartbeats 800000 in
theorem after3_none (v : Value) (P : Nat → Prop) (l : Fs) (p s : ByteArray) (t : Int) (w : World) (h : RowF w P v l) (hln : l.length < 1073741824) (hl : look l p.data.toList = none) (_hs1 : s.size ≤ 1073741824)  :
    Calls Try.prog 60 #[v, .agg #[.int .i64 4, .string p, .string s, .int .i64 t]] w fun e w' => AfterP P (after l (3, p.data.toList, s.data.toList, t)) w e w' := by
  have hB : Below w.heap.size w (w.alloc (.cells #[.int .i64 4, .string p, .string s, .int .i64 t] 97)) := (Below.refl _ w).alloc (Nat.le_refl _) _
  have hrow := h.kept (turned_below hB) (fun _ _ => id)
  have hs : (w.alloc (.cells #[.int .i64 4, .string p, .string s, .int .i64 t] 97)).heap.size = w.heap.size + 1 := by simp
  have HF := Lib.hid (find_none v P l p _ hrow hln hl)
  have ha : after l (3, p.data.toList, s.data.toList, t) = l := by
    unfold after
    simp only [Ch.kind, Ch.path, hl]
    rfl
  rw [ha]
  have HR := Lib.hid hrow
  clear h hrow hl ha
  go_enter Try.func60, Try.ntmps60
  go_wp2_with (go_at_call 49; refine (HF.out).mono ?_; rintro e w1 ⟨rfl, rfl⟩)
  go_ret
  exact ⟨_, rfl, HR.out.wider (fun n hn => .inl hn), hB⟩

end Go.Proofs.Ytginlknlkbhgaaa
