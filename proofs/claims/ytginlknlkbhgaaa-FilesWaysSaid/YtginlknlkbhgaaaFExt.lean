/-
  A file, made longer: its bytes, and its end that grows; which blocks turn. No condition but that the text stays below 2^40 bytes.
-/
import Derived.Test.YtginlknlkbhgaaaFUsed
namespace Go.Proofs.Ytginlknlkbhgaaa
open Go.RowKit Go.Shelf Go.Maps

theorem Turned.cells {X : Nat → Prop} {w w' : World} (h : Turned X w w') {b : Nat} {cs : Array Value} {t : TypeId} {fz : Nat × Nat} (hb : w.heap[b]? = some (.cells cs t fz)) (hx : ¬ X b) : w'.heap[b]? = some (.cells cs t fz) :=
  (h.block b (Array.getElem?_eq_some_iff.1 hb).1 hx).trans hb
theorem Turned.andThen {X Y : Nat → Prop} {A B C : World} (h : Turned X A B) (k : Turned Y B C) (hy : ∀ n, Y n → X n ∨ A.heap.size ≤ n) : Turned X A C :=
  ⟨k.os.trans h.os, k.tape.trans h.tape, k.output.trans h.output, Nat.le_trans h.size k.size, fun i hi hx =>
    (k.block i (Nat.lt_of_lt_of_le hi h.size) (fun hY => (hy i hY).elim hx (fun h => by omega))).trans (h.block i hi hx)⟩
theorem Turned.set {X : Nat → Prop} {A B : World} (h : Turned X A B) (a : Addr) (v : Value) (ha : X a.block ∨ A.heap.size ≤ a.block) : Turned X A (B.setCell a v) :=
  h.andThen (Turned.setCell (X := fun n => n = a.block) B a v rfl) (fun n hn => by rw [hn]; exact ha)

/-- How it stands in extended: the file's box, the answer's box, the builder. -/
def ExtAt (Z : Nat → Prop) (w : World) (x0 : Value) (fb rb e : Nat) (Z1 : Nat → Prop) (l : List UInt8) (wq : World) : Prop :=
  (∃ x1, wq.heap[fb]? = some (.cells #[x0, x1, .pointer (some ⟨e, 0, none⟩)] 85 (0, 0))) ∧ wq.heap[rb]? = some (.cells #[.string ⟨#[]⟩, .int .i64 0, .pointer none] 85 (0, 0)) ∧
  BuiltIn wq Z1 e l ∧ ¬ Z1 fb ∧ ¬ Z1 rb ∧ Turned Z w wq ∧ w.heap.size ≤ rb ∧ ∀ n, Z1 n → Z n ∨ w.heap.size ≤ n
theorem ExtAt.step {Z : Nat → Prop} {w : World} {x0 : Value} {fb rb e : Nat} {Z1 Z2 : Nat → Prop} {l l' : List UInt8} {wq w' : World} (h : ExtAt Z w x0 fb rb e Z1 l wq) (hT : Turned Z1 wq w') (hb : BuiltIn w' Z2 e l') (h2 : ∀ n, Z2 n → Z1 n ∨ wq.heap.size ≤ n) : ExtAt Z w x0 fb rb e Z2 l' w' := by
  obtain ⟨⟨x1, h3⟩, h4, h5, h6, h7, h8, h9, h10⟩ := h
  have lf := (Array.getElem?_eq_some_iff.1 h3).1
  have lr := (Array.getElem?_eq_some_iff.1 h4).1
  refine ⟨⟨x1, hT.cells h3 h6⟩, hT.cells h4 h7, hb, fun hz => ?_, fun hz => ?_, h8.andThen hT h10, h9, fun n hn => ?_⟩
  · rcases h2 _ hz with h | h
    · exact h6 h
    · omega
  · rcases h2 _ hz with h | h
    · exact h7 h
    · omega
  · rcases h2 n hn with h | h
    · exact h10 n h
    · have := h8.size; exact .inr (by omega)
theorem ExtAt.drew {Z : Nat → Prop} {w : World} {x0 : Value} {fb rb e : Nat} {Z1 : Nat → Prop} {l : List UInt8} {wq : World} (h : ExtAt Z w x0 fb rb e Z1 l wq) : ExtAt Z w x0 fb rb e Z1 l wq.drew :=
  h.step (Turned.drew _ _) h.2.2.1 (fun _ hn => .inl hn)
theorem ExtAt.cells {Z : Nat → Prop} {w : World} {x0 : Value} {fb rb e : Nat} {Z1 : Nat → Prop} {l : List UInt8} {wq : World} (h : ExtAt Z w x0 fb rb e Z1 l wq) :
    wq.cell? ⟨fb, 0, none⟩ = some x0 ∧ wq.cell? ⟨fb, 2, none⟩ = some (.pointer (some ⟨e, 0, none⟩)) ∧ wq.cell? ⟨rb, 0, none⟩ = some (.string ⟨#[]⟩) ∧ wq.cell? ⟨rb, 1, none⟩ = some (.int .i64 0) ∧ wq.cell? ⟨rb, 2, none⟩ = some (.pointer none) ∧
    wq.frozen? ⟨rb, 0, none⟩ = false ∧ wq.frozen? ⟨rb, 1, none⟩ = false ∧ wq.frozen? ⟨rb, 2, none⟩ = false := by
  obtain ⟨⟨x1, h3⟩, h4, _⟩ := h
  refine ⟨?_, ?_, ?_, ?_, ?_, Lib.frozen_of_heap h4 0, Lib.frozen_of_heap h4 1, Lib.frozen_of_heap h4 2⟩
  · rw [Lib.cell_of_heap h3]; rfl
  · rw [Lib.cell_of_heap h3]; rfl
  · rw [Lib.cell_of_heap h4]; rfl
  · rw [Lib.cell_of_heap h4]; rfl
  · rw [Lib.cell_of_heap h4]; rfl
theorem ExtAt.write {Z : Nat → Prop} {w : World} {x0 : Value} {fb rb e : Nat} {Z1 : Nat → Prop} {l : List UInt8} {wq : World} (h : ExtAt Z w x0 fb rb e Z1 l wq) (s : ByteArray) (hl : l.length + s.size ≤ 1099511627776) :
    Calls Try.prog 69 #[.pointer (some ⟨e, 0, none⟩), .string s] wq fun r w' => r = .returned (.tuple #[.int .i64 s.size, .nilIface]) ∧ ∃ Z2, ExtAt Z w x0 fb rb e Z2 (l ++ s.data.toList) w' ∧ ∀ n, Z2 n → Z1 n ∨ wq.heap.size ≤ n :=
  (write_any e Z1 _ (.inr rfl) l s wq h.2.2.1 hl).mono (fun _ _ hw => ⟨hw.1, _, h.step hw.2.2 hw.2.1 (fun _ hn => hn), fun _ hn => hn⟩)
theorem ExtAt.str {Z : Nat → Prop} {w : World} {x0 : Value} {fb rb e : Nat} {Z1 : Nat → Prop} {l : List UInt8} {wq : World} (h : ExtAt Z w x0 fb rb e Z1 l wq) (hl : l.length ≤ 1099511627776) :
    Calls Try.prog 70 #[.pointer (some ⟨e, 0, none⟩)] wq fun r w' => r = .returned (.string (txt l)) ∧ ExtAt Z w x0 fb rb e Z1 l w' :=
  (string_any e Z1 l wq h.2.2.1 hl).mono (fun _ _ hw => ⟨hw.1, h.step hw.2.2 hw.2.1 (fun _ hn => .inl hn)⟩)
/-- Behind the answer's stores. -/
theorem ExtAt.done {Z : Nat → Prop} {w : World} {x0 : Value} {fb rb e : Nat} {Z1 : Nat → Prop} {l : List UInt8} {wq : World} (h : ExtAt Z w x0 fb rb e Z1 l wq) (a b c : Value) :
    BuiltIn (((wq.setCell ⟨rb, 0, none⟩ a).setCell ⟨rb, 1, none⟩ b).setCell ⟨rb, 2, none⟩ c) Z1 e l ∧ Turned Z w (((wq.setCell ⟨rb, 0, none⟩ a).setCell ⟨rb, 1, none⟩ b).setCell ⟨rb, 2, none⟩ c) ∧
      (((wq.setCell ⟨rb, 0, none⟩ a).setCell ⟨rb, 1, none⟩ b).setCell ⟨rb, 2, none⟩ c).cell? ⟨rb, 0, none⟩ = some a ∧ (((wq.setCell ⟨rb, 0, none⟩ a).setCell ⟨rb, 1, none⟩ b).setCell ⟨rb, 2, none⟩ c).cell? ⟨rb, 1, none⟩ = some b ∧ (((wq.setCell ⟨rb, 0, none⟩ a).setCell ⟨rb, 1, none⟩ b).setCell ⟨rb, 2, none⟩ c).cell? ⟨rb, 2, none⟩ = some c := by
  obtain ⟨h3, h4, h5, h6, h7, h8, h9, h10⟩ := h
  have hh : (((wq.setCell ⟨rb, 0, none⟩ a).setCell ⟨rb, 1, none⟩ b).setCell ⟨rb, 2, none⟩ c).heap[rb]? = some (.cells #[a, b, c] 85 (0, 0)) := by simp [World.setCell, Array.getElem?_modify, h4]
  refine ⟨?_, ((h8.set _ _ (.inr h9)).set _ _ (.inr h9)).set _ _ (.inr h9), by rw [Lib.cell_of_heap hh]; rfl, by rw [Lib.cell_of_heap hh]; rfl, by rw [Lib.cell_of_heap hh]; rfl⟩
  have hT : Turned (fun n => n = rb) wq (((wq.setCell ⟨rb, 0, none⟩ a).setCell ⟨rb, 1, none⟩ b).setCell ⟨rb, 2, none⟩ c) :=
    ((Turned.setCell (X := fun n => n = rb) wq ⟨rb, 0, none⟩ a rfl).trans (Turned.setCell (X := fun n => n = rb) _ ⟨rb, 1, none⟩ b rfl)).trans (Turned.setCell (X := fun n => n = rb) _ ⟨rb, 2, none⟩ c rfl)
  exact h5.kept hT (fun n hn e => h7 (e ▸ hn)) (fun _ hn _ => hn)

set_option maxRecDepth 100000 in
set_option maxHeartbeats 4000000 in
theorem extended_some (e : Nat) (Z : Nat → Prop) (tx s : ByteArray) (tm t2 : Int) (w : World) (hZ : ∀ n, Z n → n < w.heap.size) (h : BuiltIn w Z e tx.data.toList) (hlen : tx.size + s.size ≤ 1099511627776) :
    Calls Try.prog 54 #[.agg #[.string tx, .int .i64 tm, .pointer (some ⟨e, 0, none⟩)], .string s, .int .i64 t2] w fun r w' =>
      r = .returned (.agg #[.string (txt (tx.data.toList ++ s.data.toList)), .int .i64 t2, .pointer (some ⟨e, 0, none⟩)]) ∧ ∃ Z2, BuiltIn w' Z2 e (tx.data.toList ++ s.data.toList) ∧ Turned Z w w' ∧ ∀ n, Z2 n → Z n ∨ w.heap.size ≤ n := by
  have HA : ExtAt Z w (.string tx) w.heap.size (w.heap.size + 1) e Z tx.data.toList ((w.alloc (.cells #[.string tx, .int .i64 tm, .pointer (some ⟨e, 0, none⟩)] 85)).alloc (.cells #[.string ⟨#[]⟩, .int .i64 0, .pointer none] 85)) := by
    refine ⟨⟨.int .i64 tm, (Below.heap_alloc _ _ _ (by simp)).trans (World.alloc_heap_new w _)⟩, ?_, ?_, fun hn => ?_, fun hn => ?_, (Turned.alloc Z w _).trans (Turned.alloc Z _ _), by omega, fun _ hn => .inl hn⟩
    · have := World.alloc_heap_new (w.alloc (.cells #[.string tx, .int .i64 tm, .pointer (some ⟨e, 0, none⟩)] 85)) (.cells #[.string ⟨#[]⟩, .int .i64 0, .pointer none] 85); rwa [World.size_alloc] at this
    · exact h.kept ((Turned.alloc (fun _ => False) w _).trans (Turned.alloc _ _ _)) (fun _ _ => id) (fun _ hn _ => hn)
    · have := hZ _ hn; omega
    · have := hZ _ hn; omega
  have HW := Lib.hid (HA.write s (by rw [size_list]; exact hlen))
  have hl : (tx.data.toList ++ s.data.toList).length ≤ 1099511627776 := by rw [List.length_append, size_list, size_list]; exact hlen
  generalize tx.data.toList ++ s.data.toList = ts at HW hl ⊢
  clear h HA
  go_enter Try.func54, Try.ntmps54
  go_wp2_with (go_at_call 69; refine (HW.out).mono ?_)
  rintro r w1 ⟨rfl, Z2, HA2, hz2⟩
  have HS : Hid (∀ wq, ExtAt Z w (.string tx) w.heap.size (w.heap.size + 1) e Z2 ts wq → Calls Try.prog 70 #[.pointer (some ⟨e, 0, none⟩)] wq fun r w' => r = .returned (.string (txt ts)) ∧ ExtAt Z w (.string tx) w.heap.size (w.heap.size + 1) e Z2 ts w') := fun wq hq => hq.str hl
  have HZ : Hid (∀ n, Z2 n → Z n ∨ w.heap.size ≤ n) := HA2.2.2.2.2.2.2.2
  obtain ⟨c0, c1, c2, c3, c4, d0, d1, d2⟩ := HA2.drew.cells
  clear HW hz2
  go_wp2
  go_region_with (go_at_call 70; refine (HS.out _ (by first | assumption | exact HA2.drew)).mono ?_; rintro r w2 ⟨rfl, HA3⟩; obtain ⟨g0, g1, g2, g3, g4, k0, k1, k2⟩ := id HA3.cells)
  all_goals (
    have HD := HA3.done (.string (txt ts)) (.int .i64 t2) (.pointer (some ⟨e, 0, none⟩))
    clear HA3 g0 g1 g2 g3 g4 k0 k1 k2 c0 c1 c2 c3 c4 d0 d1 d2
    generalize (((w2.setCell ⟨w.heap.size + 1, 0, none⟩ (.string (txt ts))).setCell ⟨w.heap.size + 1, 1, none⟩ (.int .i64 t2)).setCell ⟨w.heap.size + 1, 2, none⟩ (.pointer (some ⟨e, 0, none⟩))) = w3 at HD ⊢
    obtain ⟨h1, h2, q0, q1, q2⟩ := HD
    have H1 := Lib.hid h1
    clear h1
    go_wp2
    exact bodyPost_ret (v := .agg #[.string (txt ts), .int .i64 t2, .pointer (some ⟨e, 0, none⟩)]) (by simp [results, Try.results54, go_sem, q0, q1, q2]) rfl ⟨rfl, Z2, H1.out, h2, HZ.out⟩)

set_option maxRecDepth 100000 in
set_option maxHeartbeats 4000000 in
theorem extended_none (tx s : ByteArray) (tm t2 : Int) (w : World) (hlen : tx.size + s.size ≤ 1099511627776) :
    Calls Try.prog 54 #[.agg #[.string tx, .int .i64 tm, .pointer none], .string s, .int .i64 t2] w fun r w' =>
      ∃ e, r = .returned (.agg #[.string (txt (tx.data.toList ++ s.data.toList)), .int .i64 t2, .pointer (some ⟨e, 0, none⟩)]) ∧ w.heap.size ≤ e ∧ ∃ Z2, BuiltIn w' Z2 e (tx.data.toList ++ s.data.toList) ∧ Turned (fun _ => False) w w' ∧ ∀ n, Z2 n → w.heap.size ≤ n := by
  have hl : (tx.data.toList ++ s.data.toList).length ≤ 1099511627776 := by rw [List.length_append, size_list, size_list]; exact hlen
  obtain ⟨ts, hts⟩ : ∃ ts, ts = tx.data.toList ++ s.data.toList := ⟨_, rfl⟩
  have HTS := Lib.hid hts
  rw [← hts] at hl ⊢
  clear hts
  have HW : Hid (Calls Try.prog 69 #[.pointer (some ⟨w.heap.size + 1 + 1, 0, none⟩), .string tx] (((w.alloc (.cells #[.string tx, .int .i64 tm, .pointer (some ⟨w.heap.size + 1 + 1, 0, none⟩)] 85)).alloc (.cells #[.string ⟨#[]⟩, .int .i64 0, .pointer none] 85)).alloc (.cells #[.pointer none, .slice none 0 0] 108))
      fun r w1 => r = .returned (.tuple #[.int .i64 tx.size, .nilIface]) ∧ ∃ Z2, ExtAt (fun _ => False) w (.string tx) w.heap.size (w.heap.size + 1) (w.heap.size + 1 + 1) Z2 tx.data.toList w1) := by
    obtain ⟨W, hW⟩ : ∃ W, W = (w.alloc (.cells #[.string tx, .int .i64 tm, .pointer (some ⟨w.heap.size + 1 + 1, 0, none⟩)] 85)).alloc (.cells #[.string ⟨#[]⟩, .int .i64 0, .pointer none] 85) := ⟨_, rfl⟩
    have hs : W.heap.size = w.heap.size + 1 + 1 := by rw [hW]; simp
    have hf : W.heap[w.heap.size]? = some (.cells #[.string tx, .int .i64 tm, .pointer (some ⟨w.heap.size + 1 + 1, 0, none⟩)] 85 (0, 0)) := by rw [hW]; exact (Below.heap_alloc _ _ _ (by simp)).trans (World.alloc_heap_new w _)
    have hr : W.heap[w.heap.size + 1]? = some (.cells #[.string ⟨#[]⟩, .int .i64 0, .pointer none] 85 (0, 0)) := by
      rw [hW]
      have := World.alloc_heap_new (w.alloc (.cells #[.string tx, .int .i64 tm, .pointer (some ⟨w.heap.size + 1 + 1, 0, none⟩)] 85)) (.cells #[.string ⟨#[]⟩, .int .i64 0, .pointer none] 85)
      rwa [World.size_alloc] at this
    have hT : Turned (fun _ => False) w W := by rw [hW]; exact (Turned.alloc _ w _).trans (Turned.alloc _ _ _)
    rw [← hW, ← hs]
    have hB := BuiltP.fresh W
    have hT2 : Turned (fun _ => False) w (W.alloc (.cells #[.pointer none, .slice none 0 0] 108)) := hT.trans (Turned.alloc _ _ _)
    have hf2 := (Turned.alloc (fun _ => False) W (.cells #[.pointer none, .slice none 0 0] 108)).cells hf id
    have hr2 := (Turned.alloc (fun _ => False) W (.cells #[.pointer none, .slice none 0 0] 108)).cells hr id
    have hs2 : (W.alloc (.cells #[.pointer none, .slice none 0 0] 108)).heap.size = W.heap.size + 1 := by simp
    show Calls _ _ _ _ _
    refine (write_any W.heap.size (fun n => n = W.heap.size) (.pointer none) (.inl rfl) [] tx _ hB (by simp; omega)).mono ?_
    rintro r w1 ⟨rfl, hb, ht⟩
    refine ⟨rfl, fun n => n = W.heap.size ∨ (W.alloc (.cells #[.pointer none, .slice none 0 0] 108)).heap.size ≤ n, ⟨.int .i64 tm, by rw [hs]; exact ht.cells hf2 (by omega)⟩, ht.cells hr2 (by omega), hb, ?_, ?_, hT2.andThen ht (fun n hn => .inr (by omega)), by omega, fun n hn => .inr (by omega)⟩
    · rw [hs2]; omega
    · rw [hs2]; omega
  go_enter Try.func54, Try.ntmps54
  go_wp2_with (go_at_call 69; refine (HW.out).mono ?_)
  rintro r w1 ⟨rfl, Z2, HA2⟩
  have HW2 := Lib.hid (HA2.write s (by rw [size_list]; exact hlen))
  obtain ⟨c0, c1, c2, c3, c4, d0, d1, d2⟩ := HA2.cells
  rw [← HTS.out] at HW2
  clear HW HA2
  go_wp2_with (go_at_call 69; refine (HW2.out).mono ?_)
  rintro r w1b ⟨rfl, Z3, HA2, hz2⟩
  have HS : Hid (∀ wq, ExtAt (fun _ => False) w (.string tx) w.heap.size (w.heap.size + 1) (w.heap.size + 1 + 1) Z3 ts wq → Calls Try.prog 70 #[.pointer (some ⟨w.heap.size + 1 + 1, 0, none⟩)] wq fun r w' => r = .returned (.string (txt ts)) ∧ ExtAt (fun _ => False) w (.string tx) w.heap.size (w.heap.size + 1) (w.heap.size + 1 + 1) Z3 ts w') := fun wq hq => hq.str hl
  have HZ : Hid (∀ n, Z3 n → False ∨ w.heap.size ≤ n) := HA2.2.2.2.2.2.2.2
  clear c0 c1 c2 c3 c4 d0 d1 d2
  obtain ⟨c0, c1, c2, c3, c4, d0, d1, d2⟩ := HA2.drew.cells
  clear HW2 hz2
  go_wp2
  go_region_with (go_at_call 70; refine (HS.out _ (by first | assumption | exact HA2.drew)).mono ?_; rintro r w2 ⟨rfl, HA3⟩; obtain ⟨g0, g1, g2, g3, g4, k0, k1, k2⟩ := id HA3.cells)
  all_goals (
    have HD := HA3.done (.string (txt ts)) (.int .i64 t2) (.pointer (some ⟨w.heap.size + 1 + 1, 0, none⟩))
    clear HA3 g0 g1 g2 g3 g4 k0 k1 k2 c0 c1 c2 c3 c4 d0 d1 d2
    generalize (((w2.setCell ⟨w.heap.size + 1, 0, none⟩ (.string (txt ts))).setCell ⟨w.heap.size + 1, 1, none⟩ (.int .i64 t2)).setCell ⟨w.heap.size + 1, 2, none⟩ (.pointer (some ⟨w.heap.size + 1 + 1, 0, none⟩))) = w3 at HD ⊢
    obtain ⟨h1, h2, q0, q1, q2⟩ := HD
    have H1 := Lib.hid h1
    clear h1
    go_wp2
    exact bodyPost_ret (v := .agg #[.string (txt ts), .int .i64 t2, .pointer (some ⟨w.heap.size + 1 + 1, 0, none⟩)]) (by simp [results, Try.results54, go_sem, q0, q1, q2]) rfl ⟨w.heap.size + 1 + 1, rfl, by omega, Z3, H1.out, h2, fun n hn => (HZ.out n hn).elim (fun h => h.elim) id⟩)

end Go.Proofs.Ytginlknlkbhgaaa
