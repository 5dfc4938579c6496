/-
  What is open of a makefile's conditionals, as the program keeps it: a struct with room of its own, and a slice of it, or of a block that came when the room was full; what fits answers. No condition but that fewer than 2^30 are open.
-/
import Derived.Test.YtldddecaeloohaaDoorQR
import Derived.Test.YtldddecaeloohaaDoorPRd
namespace Go.Proofs.YtldddecaeloohaaDoor
open Go.RowKit Go.Shelf
attribute [local go_sem] Oper.semAt_some

def stO (op : List Bool) : List Value := op.reverse.map Value.bool
theorem stO_cons (b : Bool) (op : List Bool) : stO (b :: op) = stO op ++ [.bool b] := by simp [stO]
theorem stO_len (op : List Bool) : (stO op).length = op.length := by simp [stO]
abbrev tailN (v : Value) (dp : Option Int) : List Value := [v, .bool dp.isSome, .int .i64 (dp.getD 0)]
/-- The struct lies at ib; what is open, and the line of the first one that was too deep. -/
def oNest (ib : Nat) (op : List Bool) (dp : Option Int) : Own where
  holds w X := (∃ room g cap, w.heap[ib]? = some (.cells (room ++ tailN (.slice (some ⟨g, 0, none⟩) op.length cap) dp).toArray 59 (0, 0)) ∧ room.length = 20 ∧ op.length ≤ cap ∧ cap ≤ maxLen ∧
    ((g = ib ∧ cap = 20 ∧ room.take op.length = stO op) ∨ (g ≠ ib ∧ X g ∧ ∃ cur T, w.heap[g]? = some (.cells cur T (0, 0)) ∧ cap ≤ cur.size ∧ cur.toList.take op.length = stO op))) ∧ X ib ∧ ∀ n, X n → n < w.heap.size
  kept h hT hd := by
    obtain ⟨⟨room, g, cap, h1, h2, h3, h4, h5⟩, h6, h7⟩ := h
    refine ⟨⟨room, g, cap, hT.cells h1 (hd _ h6), h2, h3, h4, ?_⟩, h6, fun n hn => Nat.lt_of_lt_of_le (h7 n hn) hT.size⟩
    rcases h5 with h5 | ⟨h8, h9, cur, T, h10, h11⟩
    · exact .inl h5
    · exact .inr ⟨h8, h9, cur, T, hT.cells h10 (hd _ h9), h11⟩
  lt h := h.2.2
section
variable {w0 w : World} {l : List Own} {ib : Nat} {op : List Bool} {dp : Option Int}
theorem tail_at (room : List Value) (h : room.length = 20) (v : Value) (dp : Option Int) : (room ++ tailN v dp)[20]? = some v ∧ (room ++ tailN v dp)[21]? = some (.bool dp.isSome) ∧ (room ++ tailN v dp)[22]? = some (.int .i64 (dp.getD 0)) := by
  refine ⟨?_, ?_, ?_⟩ <;> (rw [List.getElem?_append_right (by omega), h]; rfl)
theorem In.nestAt (h : In w0 (oNest ib op dp :: l) w) : ∃ g cap, w.cell? ⟨ib, 20, none⟩ = some (.slice (some ⟨g, 0, none⟩) op.length cap) ∧ w.cell? ⟨ib, 21, none⟩ = some (.bool dp.isSome) ∧ w.cell? ⟨ib, 22, none⟩ = some (.int .i64 (dp.getD 0)) ∧
    (∀ j, w.frozen? ⟨ib, j, none⟩ = false) ∧ op.length ≤ cap ∧ (∀ j, w.frozen? ⟨g, j, none⟩ = false) ∧ ∀ b o, op = b :: o → w.cell? ⟨g, o.length, none⟩ = some (.bool b) := by
  obtain ⟨X, ⟨⟨room, g, cap, h1, h2, h3, h4, h5⟩, h6, h7⟩, _⟩ := h.get (e := oNest ib op dp) (by simp)
  obtain ⟨t0, t1, t2⟩ := tail_at room h2 (.slice (some ⟨g, 0, none⟩) op.length cap) dp
  have hlast : ∀ (cs : List Value), cs.take op.length = stO op → ∀ b o, op = b :: o → cs[o.length]? = some (.bool b) := by
    rintro cs hc b o rfl
    have : (cs.take (b :: o).length)[o.length]? = some (.bool b) := by
      rw [hc, stO_cons, List.getElem?_append_right (by rw [stO_len]; exact Nat.le_refl _), stO_len]; simp
    rw [List.getElem?_take_of_lt (by simp)] at this
    exact this
  refine ⟨g, cap, ?_, ?_, ?_, Lib.frozen_of_heap h1, h3, ?_, ?_⟩
  · rw [Lib.cell_of_heap h1]; simpa using t0
  · rw [Lib.cell_of_heap h1]; simpa using t1
  · rw [Lib.cell_of_heap h1]; simpa using t2
  · rcases h5 with ⟨rfl, _, _⟩ | ⟨_, _, cur, T, h10, _, _⟩
    · exact Lib.frozen_of_heap h1
    · exact Lib.frozen_of_heap h10
  · intro b o hop
    rcases h5 with ⟨rfl, h8, h9⟩ | ⟨_, _, cur, T, h10, _, h11⟩
    · rw [Lib.cell_of_heap h1]
      have h12 := hlast (room ++ tailN (.slice (some ⟨g, 0, none⟩) op.length cap) dp) (by rw [List.take_append_of_le_length (by omega)]; exact h9) b o hop
      simpa using h12
    · rw [Lib.cell_of_heap h10]
      have h12 := hlast cur.toList h11 b o hop
      simpa using h12
/-- The first one that is too deep. -/
theorem In.nestDeep (h : In w0 (oNest ib op dp :: l) w) (a : Int) : In w0 (oNest ib op (some a) :: l) ((w.setCell ⟨ib, 21, none⟩ (.bool true)).setCell ⟨ib, 22, none⟩ (.int .i64 a)) :=
  h.one fun X ⟨⟨room, g, cap, h1, h2, h3, h4, h5⟩, h6, h7⟩ => by
    have s1 := set_cells (i := 21) h1 (.bool true)
    have s2 := set_cells (i := 22) s1 (.int .i64 a)
    have e : ((room ++ tailN (.slice (some ⟨g, 0, none⟩) op.length cap) dp).set 21 (.bool true)).set 22 (.int .i64 a) = room ++ tailN (.slice (some ⟨g, 0, none⟩) op.length cap) (some a) := by
      rw [List.set_append_right _ _ (by omega), List.set_append_right _ _ (by omega), h2]; rfl
    rw [e] at s2
    have hT : Turned (fun n => n = ib) w ((w.setCell ⟨ib, 21, none⟩ (.bool true)).setCell ⟨ib, 22, none⟩ (.int .i64 a)) := (Turned.setCell (X := fun n => n = ib) w ⟨ib, 21, none⟩ _ rfl).trans (Turned.setCell (X := fun n => n = ib) _ ⟨ib, 22, none⟩ _ rfl)
    refine ⟨X, ⟨⟨room, g, cap, s2, h2, h3, h4, ?_⟩, h6, fun n hn => by have := h7 n hn; simpa using this⟩, hT.wider fun n hn => by rw [hn]; exact h6, fun _ => .inl⟩
    rcases h5 with h5 | ⟨h8, h9, cur, T, h10, h11⟩
    · exact .inl h5
    · exact .inr ⟨h8, h9, cur, T, hT.cells h10 h8, h11⟩
/-- The innermost one had its Else. -/
theorem In.nestTop {g n cap : Nat} {b : Bool} (h : In w0 (oNest ib (b :: op) dp :: l) w) (hc : w.cell? ⟨ib, 20, none⟩ = some (.slice (some ⟨g, 0, none⟩) n cap)) (b' : Bool) : In w0 (oNest ib (b' :: op) dp :: l) (w.setCell ⟨g, op.length, none⟩ (.bool b')) :=
  h.one fun X ⟨⟨room, g', cap', h1, h2, h3, h4, h5⟩, h6, h7⟩ => by
    obtain ⟨t0, _, _⟩ := tail_at room h2 (.slice (some ⟨g', 0, none⟩) (b :: op).length cap') dp
    rw [Lib.cell_of_heap h1] at hc
    have hc' : (room ++ tailN (.slice (some ⟨g', 0, none⟩) (b :: op).length cap') dp)[20]? = some (.slice (some ⟨g, 0, none⟩) n cap) := by simpa using hc
    rw [t0] at hc'
    simp only [Option.some.injEq, Value.slice.injEq, Addr.mk.injEq, and_true] at hc'
    obtain ⟨rfl, _⟩ := hc'
    have hset : ∀ cs : List Value, cs.take (b :: op).length = stO (b :: op) → (cs.set op.length (.bool b')).take (b' :: op).length = stO (b' :: op) := fun cs hcs => by
      rw [stO_cons] at hcs
      have e : (cs.set op.length (.bool b')).take (b' :: op).length = (cs.take (b :: op).length).set op.length (.bool b') := by rw [List.take_set]; rfl
      rw [e, hcs, stO_cons, List.set_append_right _ _ (by rw [stO_len]; exact Nat.le_refl _), stO_len]
      simp
    rcases h5 with ⟨h8, h9, h10⟩ | ⟨h8, h9, cur, T, h10, h11, h12⟩
    · subst h8
      have hl : op.length < 20 := by have := h3; rw [h9] at this; simp at this; omega
      have s1 := set_cells (i := op.length) h1 (.bool b')
      rw [List.set_append_left _ _ (by omega)] at s1
      exact ⟨X, ⟨⟨room.set op.length (.bool b'), g', cap', s1, by rw [List.length_set]; exact h2, h3, h4, .inl ⟨rfl, h9, hset room h10⟩⟩, h6, fun n hn => by have := h7 n hn; simpa using this⟩, Turned.setCell (X := X) w ⟨g', op.length, none⟩ _ h6, fun _ => .inl⟩
    · have hT : Turned (fun n => n = g') w (w.setCell ⟨g', op.length, none⟩ (.bool b')) := Turned.setCell (X := fun n => n = g') w ⟨g', op.length, none⟩ _ rfl
      have s1 : (w.setCell ⟨g', op.length, none⟩ (.bool b')).heap[g']? = some (.cells (cur.toList.set op.length (.bool b')).toArray T (0, 0)) := set_cells (cs := cur.toList) (by rw [h10]) (.bool b')
      exact ⟨X, ⟨⟨room, g', cap', hT.cells h1 (fun e => h8 e.symm), h2, h3, h4, .inr ⟨h8, h9, _, T, s1, by simpa using h11, by simpa using hset cur.toList h12⟩⟩, h6, fun n hn => by have := h7 n hn; simpa using this⟩, hT.wider fun n hn => by rw [hn]; exact h9, fun _ => .inl⟩
/-- The innermost one is closed. -/
theorem In.nestPop {g n cap : Nat} {b : Bool} (h : In w0 (oNest ib (b :: op) dp :: l) w) (hc : w.cell? ⟨ib, 20, none⟩ = some (.slice (some ⟨g, 0, none⟩) n cap)) : In w0 (oNest ib op dp :: l) (w.setCell ⟨ib, 20, none⟩ (.slice (some ⟨g, 0, none⟩) op.length cap)) :=
  h.one fun X ⟨⟨room, g', cap', h1, h2, h3, h4, h5⟩, h6, h7⟩ => by
    obtain ⟨t0, _, _⟩ := tail_at room h2 (.slice (some ⟨g', 0, none⟩) (b :: op).length cap') dp
    rw [Lib.cell_of_heap h1] at hc
    have hc' : (room ++ tailN (.slice (some ⟨g', 0, none⟩) (b :: op).length cap') dp)[20]? = some (.slice (some ⟨g, 0, none⟩) n cap) := by simpa using hc
    rw [t0] at hc'
    simp only [Option.some.injEq, Value.slice.injEq, Addr.mk.injEq, and_true] at hc'
    obtain ⟨rfl, _, rfl⟩ := hc'
    have hpop : ∀ cs : List Value, cs.take (b :: op).length = stO (b :: op) → cs.take op.length = stO op := fun cs hcs => by
      rw [stO_cons] at hcs
      have := congrArg (List.take op.length) hcs
      rw [List.take_take, Nat.min_eq_left (by simp), List.take_append_of_le_length (by rw [stO_len]; exact Nat.le_refl _), List.take_of_length_le (l := stO op) (by rw [stO_len]; exact Nat.le_refl _)] at this
      exact this
    have s1 := set_cells (i := 20) h1 (.slice (some ⟨g', 0, none⟩) op.length cap')
    have e : (room ++ tailN (.slice (some ⟨g', 0, none⟩) (b :: op).length cap') dp).set 20 (.slice (some ⟨g', 0, none⟩) op.length cap') = room ++ tailN (.slice (some ⟨g', 0, none⟩) op.length cap') dp := by
      rw [List.set_append_right _ _ (by omega), h2]; rfl
    rw [e] at s1
    have hT : Turned (fun n => n = ib) w (w.setCell ⟨ib, 20, none⟩ (.slice (some ⟨g', 0, none⟩) op.length cap')) := Turned.setCell (X := fun n => n = ib) w ⟨ib, 20, none⟩ _ rfl
    refine ⟨X, ⟨⟨room, g', cap', s1, h2, by simp at h3; omega, h4, ?_⟩, h6, fun n hn => by have := h7 n hn; simpa using this⟩, hT.wider fun n hn => by rw [hn]; exact h6, fun _ => .inl⟩
    rcases h5 with ⟨h8, h9, h10⟩ | ⟨h8, h9, cur, T, h10, h11, h12⟩
    · exact .inl ⟨h8, h9, hpop room h10⟩
    · exact .inr ⟨h8, h9, cur, T, hT.cells h10 h8, h11, hpop _ h12⟩
theorem boolInfo : (Tryd.prog.info? 4).map (fun i => (i.zero, i.size, i.bytes)) = some (some (.bool false), 1, 1) := by kernel_rfl
/-- One more is open. -/
theorem In.nestPush {g n cap : Nat} (h : In w0 (oNest ib op dp :: l) w) (hc : w.cell? ⟨ib, 20, none⟩ = some (.slice (some ⟨g, 0, none⟩) n cap)) (hl : op.length < 1073741824) (ty E : TypeId) :
    ∃ o' c' w', (Builtin.append_ #[57, 57] ty #[.slice (some ⟨g, 0, none⟩) n cap, .slice (some ⟨w.heap.size, 0, none⟩) 1 1]).run Tryd.prog (w.alloc (.cells #[.bool false] E)) = .ok (.slice o' (op.length + 1) c') w' ∧
      w'.cell? ⟨ib, 20, none⟩ = some (.slice (some ⟨g, 0, none⟩) n cap) ∧ w'.frozen? ⟨ib, 20, none⟩ = false ∧ In w0 (oNest ib (false :: op) dp :: l) (w'.setCell ⟨ib, 20, none⟩ (.slice o' (op.length + 1) c')) := by
  obtain ⟨i, hi, hz, hs, hby⟩ := info_parts boolInfo
  have hnew := World.alloc_heap_new w (.cells #[.bool false] E)
  have hnews : ∀ j u, ([.bool false] : List Value)[j]? = some u → (w.alloc (.cells #[.bool false] E)).cell? ((⟨w.heap.size, 0, none⟩ : Addr).add j) = some u := fun j u hu => by
    cases j with
    | zero => cases hu; rw [Addr.add_lit, Lib.cell_of_heap hnew]; rfl
    | succ j => simp at hu
  have h1' : ∀ u ∈ ([.bool false] : List Value), u.oneCell' = true := fun u hu => by rw [List.mem_singleton.1 hu]; rfl
  -- what one run of it comes to, whatever blocks the struct may turn
  have key : ∀ X, (oNest ib op dp).holds w X → ∃ o' c' w', (Builtin.append_ #[57, 57] ty #[.slice (some ⟨g, 0, none⟩) n cap, .slice (some ⟨w.heap.size, 0, none⟩) 1 1]).run Tryd.prog (w.alloc (.cells #[.bool false] E)) = .ok (.slice o' (op.length + 1) c') w' ∧
      w'.cell? ⟨ib, 20, none⟩ = some (.slice (some ⟨g, 0, none⟩) n cap) ∧ w'.frozen? ⟨ib, 20, none⟩ = false ∧
      ∃ X', (oNest ib (false :: op) dp).holds (w'.setCell ⟨ib, 20, none⟩ (.slice o' (op.length + 1) c')) X' ∧ Turned X w (w'.setCell ⟨ib, 20, none⟩ (.slice o' (op.length + 1) c')) ∧ ∀ m, X' m → X m ∨ w.heap.size ≤ m := by
    rintro X ⟨⟨room, g', cap', h1, h2, h3, h4, h5⟩, h6, h7⟩
    obtain ⟨t0, _, _⟩ := tail_at room h2 (.slice (some ⟨g', 0, none⟩) op.length cap') dp
    rw [Lib.cell_of_heap h1] at hc
    have hc' : (room ++ tailN (.slice (some ⟨g', 0, none⟩) op.length cap') dp)[20]? = some (.slice (some ⟨g, 0, none⟩) n cap) := by simpa using hc
    rw [t0] at hc'
    simp only [Option.some.injEq, Value.slice.injEq, Addr.mk.injEq, and_true] at hc'
    obtain ⟨rfl, rfl, rfl⟩ := hc'
    have hbl : ib < w.heap.size := h7 ib h6
    have hbA : Below w.heap.size w (w.alloc (.cells #[.bool false] E)) := (Below.refl _ w).alloc (Nat.le_refl _) _
    have k1 := (hbA.block _ hbl).trans h1
    obtain ⟨cur, T, hcur, hcs, hct⟩ : ∃ cur T, w.heap[g']? = some (.cells cur T (0, 0)) ∧ cap' ≤ cur.size ∧ cur.toList.take op.length = stO op := by
      rcases h5 with ⟨rfl, h8, h9⟩ | ⟨_, _, cur, T, h10, h11, h12⟩
      · exact ⟨_, _, h1, by simp [h8, h2], by show List.take _ (room ++ _) = _; rw [List.take_append_of_le_length (by omega)]; exact h9⟩
      · exact ⟨cur, T, h10, h11, h12⟩
    have hgl : g' < w.heap.size := (Array.getElem?_eq_some_iff.1 hcur).1
    have kcur := (hbA.block _ hgl).trans hcur
    have hTA : Turned X w (w.alloc (.cells #[.bool false] E)) := Turned.alloc X w _
    by_cases hroom : op.length + 1 ≤ cap'
    · have hr := run_append_in (P := Tryd.prog) (w.alloc (.cells #[.bool false] E)) 57 ty 4 T i Tryd.underlying57 hi g' op.length cap' cur kcur ⟨w.heap.size, 0, none⟩ 1 1 [.bool false] (by rw [hs]; rfl) hnews h1' hroom (by rw [hs]; simp; omega)
      rw [hs, Nat.mul_one] at hr
      obtain ⟨W', hW'⟩ : ∃ W', W' = (w.alloc (.cells #[.bool false] E)).setRow g' (cur.toList.take op.length ++ [Value.bool false] ++ cur.toList.drop (op.length + [Value.bool false].length)).toArray := ⟨_, rfl⟩
      rw [← hW'] at hr
      have hT2 : Turned (fun m => m = g') (w.alloc (.cells #[.bool false] E)) W' := by
        rw [hW']
        exact ⟨rfl, rfl, rfl, by simp, fun k _ hk => setRow_other _ g' k _ hk⟩
      have hset : cur.toList.take op.length ++ [Value.bool false] ++ cur.toList.drop (op.length + [Value.bool false].length) = cur.toList.set op.length (.bool false) := by
        have hlt : op.length < cur.toList.length := by simp; omega
        rw [List.set_eq_take_append_cons_drop, if_pos hlt]; simp
      have hrow : W'.heap[g']? = some (.cells (cur.toList.set op.length (.bool false)).toArray T (0, 0)) := by
        rw [hW', hset]; exact setRow_heap _ g' cur _ T _ kcur
      have htk : ∀ cs : List Value, op.length < cs.length → cs.take op.length = stO op → (cs.set op.length (.bool false)).take (false :: op).length = stO (false :: op) := fun cs hlt hcs => by
        rw [stO_cons, ← hcs, List.length_cons, List.take_add_one, List.take_set, List.set_eq_of_length_le (by rw [List.length_take]; omega), List.getElem?_set_self hlt]; rfl
      rcases h5 with ⟨h8, h9, h10⟩ | ⟨h8, h9, _⟩
      · subst h8
        have hcc : cur = (room ++ tailN (.slice (some ⟨g', 0, none⟩) op.length cap') dp).toArray ∧ T = 59 := by
          rw [h1] at hcur; cases hcur; exact ⟨rfl, rfl⟩
        obtain ⟨rfl, rfl⟩ := hcc
        have hl20 : op.length < 20 := by omega
        have hrow' : W'.heap[g']? = some (.cells (room.set op.length (.bool false) ++ tailN (.slice (some ⟨g', 0, none⟩) op.length cap') dp).toArray 59 (0, 0)) := by
          rw [hrow, List.toList_toArray, List.set_append_left _ _ (by omega)]
        obtain ⟨u0, _, _⟩ := tail_at (room.set op.length (.bool false)) (by rw [List.length_set]; exact h2) (.slice (some ⟨g', 0, none⟩) op.length cap') dp
        have s1 := set_cells (i := 20) hrow' (.slice (some ⟨g', 0, none⟩) (op.length + 1) cap')
        have e : (room.set op.length (.bool false) ++ tailN (.slice (some ⟨g', 0, none⟩) op.length cap') dp).set 20 (.slice (some ⟨g', 0, none⟩) (op.length + 1) cap') = room.set op.length (.bool false) ++ tailN (.slice (some ⟨g', 0, none⟩) (op.length + 1) cap') dp := by
          rw [List.set_append_right _ _ (by rw [List.length_set]; omega), List.length_set, h2]; rfl
        rw [e] at s1
        have hT3 : Turned (fun m => m = g') W' (W'.setCell ⟨g', 20, none⟩ (.slice (some ⟨g', 0, none⟩) (op.length + 1) cap')) := Turned.setCell (X := fun m => m = g') W' ⟨g', 20, none⟩ _ rfl
        refine ⟨_, _, W', hr, by rw [Lib.cell_of_heap hrow']; simpa using u0, Lib.frozen_of_heap hrow' _, X, ⟨⟨_, g', cap', s1, by rw [List.length_set]; exact h2, hroom, h4, .inl ⟨rfl, h9, htk room (by omega) h10⟩⟩, h6, fun m hm => ?_⟩, (hTA.trans (hT2.wider fun m hm => by rw [hm]; exact h6)).trans (hT3.wider fun m hm => by rw [hm]; exact h6), fun _ => .inl⟩
        have a1 := h7 m hm
        have a2 := hbA.size
        have a3 := hT2.size
        have a4 := hT3.size
        omega
      · have hib : W'.heap[ib]? = some (.cells (room ++ tailN (.slice (some ⟨g', 0, none⟩) op.length cap') dp).toArray 59 (0, 0)) := hT2.cells k1 (fun e => h8 e.symm)
        have s1 := set_cells (i := 20) hib (.slice (some ⟨g', 0, none⟩) (op.length + 1) cap')
        have e : (room ++ tailN (.slice (some ⟨g', 0, none⟩) op.length cap') dp).set 20 (.slice (some ⟨g', 0, none⟩) (op.length + 1) cap') = room ++ tailN (.slice (some ⟨g', 0, none⟩) (op.length + 1) cap') dp := by
          rw [List.set_append_right _ _ (by omega), h2]; rfl
        rw [e] at s1
        have hT3 : Turned (fun m => m = ib) W' (W'.setCell ⟨ib, 20, none⟩ (.slice (some ⟨g', 0, none⟩) (op.length + 1) cap')) := Turned.setCell (X := fun m => m = ib) W' ⟨ib, 20, none⟩ _ rfl
        refine ⟨_, _, W', hr, by rw [Lib.cell_of_heap hib]; simpa using t0, Lib.frozen_of_heap hib _, X, ⟨⟨room, g', cap', s1, h2, hroom, h4, .inr ⟨h8, h9, _, T, hT3.cells hrow h8, by simpa using hcs, by simpa using htk cur.toList (by simp; omega) hct⟩⟩, h6, fun m hm => ?_⟩, (hTA.trans (hT2.wider fun m hm => by rw [hm]; exact h9)).trans (hT3.wider fun m hm => by rw [hm]; exact h6), fun _ => .inl⟩
        have a1 := h7 m hm
        have a2 := hbA.size
        have a3 := hT2.size
        have a4 := hT3.size
        omega
    · have holds : ∀ j u, (stO op)[j]? = some u → (w.alloc (.cells #[.bool false] E)).cell? ((⟨g', 0, none⟩ : Addr).add j) = some u := fun j u hu => by
        have hj : j < op.length := by have := (List.getElem?_eq_some_iff.1 hu).1; rwa [stO_len] at this
        rw [Addr.add_lit, Nat.zero_add, Lib.cell_of_heap kcur]
        rw [← hct, List.getElem?_take_of_lt hj] at hu
        simpa using hu
      have hr := run_append_grow (P := Tryd.prog) (w.alloc (.cells #[.bool false] E)) 57 ty 4 i (.bool false) Tryd.underlying57 hi hz ⟨g', 0, none⟩ op.length cap' (stO op) (by rw [hs, Nat.mul_one, stO_len]) holds ⟨w.heap.size, 0, none⟩ 1 1 [.bool false] (by rw [hs]; rfl) hnews (by omega) (by omega)
        (growslice_fits (by omega) (by rw [hby]; omega))
      have hge := grownCap_ge (w.alloc (.cells #[.bool false] E)) (op.length + 1) cap' 4
      have hgm := grownCap_le_maxLen (w.alloc (.cells #[.bool false] E)) (op.length + 1) cap' 4 (by unfold maxLen; omega)
      generalize grownCap (w.alloc (.cells #[.bool false] E)) (op.length + 1) cap' 4 = gc at hr hge hgm
      obtain ⟨W', hW'⟩ : ∃ W', W' = (w.alloc (.cells #[.bool false] E)).drew.alloc (.cells ((stO op).toArray ++ [Value.bool false].toArray ++ Builtin.zeroCells (Value.bool false).cells (gc - (op.length + 1))) 4) := ⟨_, rfl⟩
      rw [← hW'] at hr
      have hsz : (w.alloc (.cells #[.bool false] E)).heap.size = w.heap.size + 1 := by simp
      rw [hsz] at hr
      have hT2 : Turned (fun _ => False) (w.alloc (.cells #[.bool false] E)) W' := by
        rw [hW']
        exact ⟨rfl, rfl, rfl, by simp, fun k hk _ => heap_alloc_old (w.alloc (.cells #[.bool false] E)).drew _ hk⟩
      have hrow : W'.heap[w.heap.size + 1]? = some (.cells ((stO op).toArray ++ [Value.bool false].toArray ++ Builtin.zeroCells (Value.bool false).cells (gc - (op.length + 1))) 4 (0, 0)) := by
        rw [hW', ← hsz]; exact World.alloc_heap_new (w.alloc (.cells #[.bool false] E)).drew _
      have hib : W'.heap[ib]? = some (.cells (room ++ tailN (.slice (some ⟨g', 0, none⟩) op.length cap') dp).toArray 59 (0, 0)) := hT2.cells k1 (fun h => h)
      have s1 := set_cells (i := 20) hib (.slice (some ⟨w.heap.size + 1, 0, none⟩) (op.length + 1) gc)
      have e : (room ++ tailN (.slice (some ⟨g', 0, none⟩) op.length cap') dp).set 20 (.slice (some ⟨w.heap.size + 1, 0, none⟩) (op.length + 1) gc) = room ++ tailN (.slice (some ⟨w.heap.size + 1, 0, none⟩) (op.length + 1) gc) dp := by
        rw [List.set_append_right _ _ (by omega), h2]; rfl
      rw [e] at s1
      have hT3 : Turned (fun m => m = ib) W' (W'.setCell ⟨ib, 20, none⟩ (.slice (some ⟨w.heap.size + 1, 0, none⟩) (op.length + 1) gc)) := Turned.setCell (X := fun m => m = ib) W' ⟨ib, 20, none⟩ _ rfl
      refine ⟨_, _, W', hr, by rw [Lib.cell_of_heap hib]; simpa using t0, Lib.frozen_of_heap hib _, fun m => X m ∨ m = w.heap.size + 1, ⟨⟨room, w.heap.size + 1, gc, s1, h2, hge, hgm, .inr ⟨by omega, .inr rfl, _, _, hT3.cells hrow (by omega), ?_, ?_⟩⟩, .inl h6, fun m hm => ?_⟩, (hTA.trans (hT2.wider fun m hm => hm.elim)).trans (hT3.wider fun m hm => by rw [hm]; exact h6), fun m hm => ?_⟩
      · simp only [Array.size_append, List.size_toArray, stO_len, size_zeroCells, List.length_cons, List.length_nil]
        show gc ≤ op.length + (0 + 1) + (gc - (op.length + 1)) * 1
        omega
      · simp only [Array.toList_append, List.append_assoc]
        rw [stO_cons, ← List.append_assoc]
        exact (congrArg (fun q => List.take q _) (by simp [stO])).trans List.take_left
      · have hs' : (w.heap.size + 1) < W'.heap.size := (Array.getElem?_eq_some_iff.1 hrow).1
        have a4 := hT3.size
        rcases hm with hm | rfl
        · have := h7 m hm; omega
        · omega
      · rcases hm with hm | hm
        · exact .inl hm
        · exact .inr (by omega)
  obtain ⟨X0, hX0, _⟩ := h.get (e := oNest ib op dp) (by simp)
  obtain ⟨o', c', w', hr, a1, a2, _⟩ := key X0 hX0
  refine ⟨o', c', w', hr, a1, a2, h.one fun X hX => ?_⟩
  obtain ⟨o2, c2, w2, hr2, _, _, hq⟩ := key X hX
  rw [hr] at hr2
  cases hr2
  exact hq
end
end Go.Proofs.YtldddecaeloohaaDoor
