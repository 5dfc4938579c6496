/-
  The document's own after: a file renamed.
-/
import Derived.Deep.RegionHeld3
import Derived.Test.YtginlknlkbhgaaaFRef3
namespace Go.Proofs.Ytginlknlkbhgaaa
open Go.RowKit Go.Shelf Go.Maps

set_option maxRecDepth 100000 in
set_option maxHeartbeats 800000 in
theorem after3_hit (v : Value) (P : Nat → Prop) (l : Fs) (p s : ByteArray) (t : Int) (w : World) (h : RowF w P v l) (hln : l.length < 1073741824) (u : FD) (hl : look l p.data.toList = some u) (_hs1 : s.size ≤ 1073741824) (hu1 : u.1.length ≤ 1073741824) :
    Calls Try.prog 60 #[v, .agg #[.int .i64 4, .string p, .string s, .int .i64 t]] w fun e w' => AfterP P (after l (3, p.data.toList, s.data.toList, t)) w e w' := by
  have hB : Below w.heap.size w (w.alloc (.cells #[.int .i64 4, .string p, .string s, .int .i64 t] 97)) := (Below.refl _ w).alloc (Nat.le_refl _) _
  have hrow := h.kept (turned_below hB) (fun _ _ => id)
  have hs : (w.alloc (.cells #[.int .i64 4, .string p, .string s, .int .i64 t] 97)).heap.size = w.heap.size + 1 := by simp
  have HF := Lib.hid (find_hit v P l p _ hrow hln hl)
  have hcells := hrow.cells
  obtain ⟨ut, um⟩ := u
  obtain ⟨st, hst⟩ : ∃ st : ByteArray, st = txt ut := ⟨_, rfl⟩
  have hstd : st.data.toList = ut := by rw [hst, txt_data]
  have hsts : st.size ≤ 1073741824 := by rw [← size_list, hstd]; exact hu1
  rcases hcells with ⟨hl0, _⟩ | ⟨g, c, hv, hPg, hgl, hc⟩
  · rw [hl0] at hl; cases hl
  subst hv
  have HC : Hid (∀ wq, Below (w.alloc (.cells #[.int .i64 4, .string p, .string s, .int .i64 t] 97)).heap.size (w.alloc (.cells #[.int .i64 4, .string p, .string s, .int .i64 t] 97)) wq → ∀ k : Nat, l[k]? = some (p.data.toList, ut, um) → wq.cell? ⟨g, k * 3 + 1, none⟩ = some (.string st) ∧ wq.cell? ⟨g, k * 3 + 2, none⟩ = some (.int .i64 um)) := by
    intro wq hb k hk
    obtain ⟨_, h1, h2⟩ := (hc.below hb hgl) k _ hk
    exact ⟨by rw [hst]; exact h1, h2⟩
  clear hst
  have ha : after l (3, p.data.toList, s.data.toList, t) = put (s.data.toList, st.data.toList, um) (drp p.data.toList l) := by rw [after3_some hl, hstd]
  rw [ha]
  have HD : Hid (∀ wq, Below (w.alloc (.cells #[.int .i64 4, .string p, .string s, .int .i64 t] 97)).heap.size (w.alloc (.cells #[.int .i64 4, .string p, .string s, .int .i64 t] 97)) wq → Calls Try.prog 59 #[.slice (some ⟨g, 0, none⟩) l.length c, .string p] wq fun e w' => ∃ o n cc, e = .returned (.slice o n cc) ∧ Below (w.alloc (.cells #[.int .i64 4, .string p, .string s, .int .i64 t] 97)).heap.size (w.alloc (.cells #[.int .i64 4, .string p, .string s, .int .i64 t] 97)) w' ∧ RowF w' (fun n => w.heap.size ≤ n) (.slice o n cc) (drp p.data.toList l)) := by
    intro wq hb
    refine (drop_any _ P l p wq (hrow.below hb (Nat.le_refl _)) hln).mono ?_
    rintro e w' ⟨v', rfl, hr, hb'⟩
    have hq := hb.size
    obtain ⟨o, cc, rfl, _⟩ := hr.shape (fun _ => rfl)
    exact ⟨o, _, cc, rfl, hb.trans (hb'.mono hq), hr.wider (fun n hn => by simp at hq; omega)⟩
  have HP : Hid (∀ wq vq, Below (w.alloc (.cells #[.int .i64 4, .string p, .string s, .int .i64 t] 97)).heap.size (w.alloc (.cells #[.int .i64 4, .string p, .string s, .int .i64 t] 97)) wq → RowF wq (fun n => w.heap.size ≤ n) vq (drp p.data.toList l) → Calls Try.prog 73 #[vq, .agg #[.string s, .string st, .int .i64 um]] wq fun e w' => ∃ o n cc, e = .returned (.slice o n cc) ∧ Below (w.alloc (.cells #[.int .i64 4, .string p, .string s, .int .i64 t] 97)).heap.size (w.alloc (.cells #[.int .i64 4, .string p, .string s, .int .i64 t] 97)) w' ∧ RowF w' (fun n => w.heap.size ≤ n) (.slice o n cc) (put (s.data.toList, st.data.toList, um) (drp p.data.toList l))) := by
    intro wq vq hb hr0
    refine (put_any vq _ (drp p.data.toList l) s st um wq hr0 (Nat.lt_of_le_of_lt (drp_len _ _) hln)).mono ?_
    rintro e w' ⟨v', rfl, hr, hb'⟩
    have hq := hb.size
    obtain ⟨o, cc, rfl, _⟩ := hr.shape (fun _ => rfl)
    exact ⟨o, _, cc, rfl, hb.trans (hb'.mono hq), hr.wider (fun n hn => by simp at hq; omega)⟩
  obtain ⟨W, hW⟩ : ∃ W, W = (w.alloc (.cells #[.int .i64 4, .string p, .string s, .int .i64 t] 97)) := ⟨_, rfl⟩
  have hx0 : W.heap[w.heap.size]? = some (.cells #[.int .i64 4, .string p, .string s, .int .i64 t] 97 (0, 0)) := by rw [hW]; exact World.alloc_heap_new w _
  have hwl : w.heap.size < W.heap.size := (Array.getElem?_eq_some_iff.1 hx0).1
  have HX : Hid (∀ wq, Below W.heap.size W wq → wq.cell? ⟨w.heap.size, 1, none⟩ = some (.string p) ∧ wq.cell? ⟨w.heap.size, 2, none⟩ = some (.string s)) := by
    intro wq hb
    have hx := (hb.block _ hwl).trans hx0
    exact ⟨by rw [Lib.cell_of_heap hx]; rfl, by rw [Lib.cell_of_heap hx]; rfl⟩
  have HW := Lib.hid hW
  rw [← hW] at HC HD HP HF
  have mixed := lays169.mixed
  clear h hrow hl hstd hc ha hx0 hwl
  have HL : Hid (∀ k : Nat, l[k]? = some (p.data.toList, ut, um) → ∀ wq, Below W.heap.size W wq → wq.cell? ⟨w.heap.size, 1, none⟩ = some (.string p) ∧ wq.cell? ⟨w.heap.size, 2, none⟩ = some (.string s) ∧ wq.cell? ⟨g, k * 3 + 1, none⟩ = some (.string st) ∧ wq.cell? ⟨g, k * 3 + 2, none⟩ = some (.int .i64 um)) :=
    fun k hk wq hb => ⟨(HX.out wq hb).1, (HX.out wq hb).2, (HC.out wq hb k hk).1, (HC.out wq hb k hk).2⟩
  subst hW
  go_enter Try.func60, Try.ntmps60
  go_wp2_with (go_at_call 49; refine (HF.out).mono ?_; rintro e w1 ⟨k, rfl, hk, rfl⟩; have HLk := Lib.hid (HL.out k hk); have e1 := (HC.out _ (Below.refl _ _) k hk).1; have hkl := (List.getElem?_eq_some_iff.1 hk).1; have hi0 : ¬ ((k : Int) < 0) := (by omega); have hi1 : (0 : Int) ≤ (k : Int) := (by omega); have hi2 : (k : Int) < (l.length : Int) := (by omega); have hbd := below_drew (Below.refl (w.alloc (.cells #[.int .i64 4, .string p, .string s, .int .i64 t] 97)).heap.size (w.alloc (.cells #[.int .i64 4, .string p, .string s, .int .i64 t] 97))); have hq4 := HLk.out _ hbd; clear hk)
  have hfin : w.heap.size ≤ (w.alloc (.cells #[.int .i64 4, .string p, .string s, .int .i64 t] 97)).heap.size := by simp
  clear hs HX HL HC HF e1
  generalize (w.alloc (.cells #[.int .i64 4, .string p, .string s, .int .i64 t] 97)) = W at *
  go_region_held3 (fun w' => w'.cell? ⟨w.heap.size, 1, none⟩ = some (.string p) ∧ w'.cell? ⟨w.heap.size, 2, none⟩ = some (.string s) ∧ w'.cell? ⟨g, k * 3 + 1, none⟩ = some (.string st) ∧ w'.cell? ⟨g, k * 3 + 2, none⟩ = some (.int .i64 um))
    (first | exact HLk.out _ hbd | exact HLk.out _ hb5 | exact HLk.out _ hb6 | exact HLk.out _ (by assumption))
    (first
      | (go_at_call 59; refine (HD.out _ hbd).mono ?_; rintro r w5 ⟨o5, n5, c5, rfl, hb5, hr5⟩)
      | (go_at_call 73; refine (HP.out _ _ hb5 hr5).mono ?_; rintro r w6 ⟨o6, n6, c6, rfl, hb6, hr6⟩))
  have HR6 := Lib.hid hr6
  clear hr6 hr5
  go_wp2
  go_ret
  exact ⟨_, rfl, HR6.out.wider (fun n hn => .inr hn), hB.trans (hb6.mono hfin)⟩

/-- A change as the document keeps it. -/
def rcCells (c : Ch) : List Value := [.int .i64 ((c.kind + 1 : Nat) : Int), .string (txt c.path), .string (txt c.arg), .int .i64 (if c.kind ≤ 1 then c.time else 0)]
theorem after_any (v : Value) (P : Nat → Prop) (l : Fs) (c : Ch) (w : World) (h : RowF w P v l) (hln : l.length < 1073741824) (hk : c.kind ≤ 3) (ha : c.arg.length ≤ 1073741824) (hT : ∀ y ∈ l, y.2.1.length ≤ 1073741824) :
    Calls Try.prog 60 #[v, .agg (rcCells c).toArray] w fun e w' => AfterP P (after l c) w e w' := by
  obtain ⟨k, p, a, t⟩ := c
  have hk' : k ≤ 3 := hk
  have ha' : (txt a).size ≤ 1073741824 := by rw [txt_size]; exact ha
  rcases (show k = 0 ∨ k = 1 ∨ k = 2 ∨ k = 3 by omega) with rfl | rfl | rfl | rfl <;> cases hl : look l p with
  | none =>
    first
      | (have := after0_none v P l (txt p) (txt a) t w h hln (by rw [txt_data]; exact hl) ha'; rw [txt_data, txt_data] at this; exact this)
      | (have := after1_none v P l (txt p) (txt a) t w h hln (by rw [txt_data]; exact hl) ha'; rw [txt_data, txt_data] at this; exact this)
      | (have := after2_none v P l (txt p) (txt a) 0 w h hln (by rw [txt_data]; exact hl) ha'; rw [txt_data, txt_data] at this; exact this)
      | (have := after3_none v P l (txt p) (txt a) 0 w h hln (by rw [txt_data]; exact hl) ha'; rw [txt_data, txt_data] at this; exact this)
  | some u =>
    have hu := hT _ (look_mem hl)
    first
      | (have := after0_hit v P l (txt p) (txt a) t w h hln u (by rw [txt_data]; exact hl) ha' hu; rw [txt_data, txt_data] at this; exact this)
      | (have := after1_hit v P l (txt p) (txt a) t w h hln u (by rw [txt_data]; exact hl) ha' hu; rw [txt_data, txt_data] at this; exact this)
      | (have := after2_hit v P l (txt p) (txt a) 0 w h hln u (by rw [txt_data]; exact hl) ha' hu; rw [txt_data, txt_data] at this; exact this)
      | (have := after3_hit v P l (txt p) (txt a) 0 w h hln u (by rw [txt_data]; exact hl) ha' hu; rw [txt_data, txt_data] at this; exact this)

end Go.Proofs.Ytginlknlkbhgaaa
