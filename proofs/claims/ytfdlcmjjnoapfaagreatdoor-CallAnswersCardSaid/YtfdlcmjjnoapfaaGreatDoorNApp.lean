/-
  append of a row that was told onto a row of the call's own; rows that were told, nil or not. No condition.
-/
import Derived.Laws.AppendOwnNone
import Derived.OwnWalk
import Derived.Test.YtfdlcmjjnoapfaaGreatDoorNWs
namespace Go.Proofs.YtfdlcmjjnoapfaaGreatDoor
open Go.RowKit Go.Shelf

theorem infoStrT : (Tryz.prog.info? 9).map (fun i => (i.zero, i.size, i.bytes)) = some (some (.string ⟨#[]⟩), 1, 16) := by kernel_rfl
theorem run_append_reads {w : World} (base B : Nat) (v vx : Value) (xs ys : List ByteArray) (hown : w.ownsRow base 9 1 v xs.length (xs.map Value.string)) (hr : Reads w B vx ys) (hl : (xs.length + ys.length) * 16 ≤ 140737488355328) (hbase : base ≤ w.heap.size) (ty : TypeId) :
    ∃ v' w', (Builtin.append_ #[22, 22] ty #[v, vx]).run Tryz.prog w = .ok v' w' ∧ w'.ownsRow base 9 1 v' (xs ++ ys).length ((xs ++ ys).map Value.string) ∧ Below base w w' := by
  obtain ⟨i0, hi, hz0, hz1, hz2⟩ := info_parts infoStrT
  rcases hr with ⟨rfl, rfl⟩ | ⟨b, f, c, rfl, hb, hc, hx⟩
  · have hrun := run_append_owned_none (P := Tryz.prog) (w := w) base 22 ty 9 i0 1 Tryz.underlying22 hi v xs.length _ hown
    exact ⟨v, w, hrun, by simpa using hown, Below.refl _ _⟩
  · obtain ⟨v', w', hrun, h2, h3, _⟩ := run_append_own (P := Tryz.prog) w base 22 ty 9 i0 _ 1 16 Tryz.underlying22 hi hz0 hz1 hz2 rfl (by decide) v xs.length _ hown ⟨b, f, none⟩ ys.length c (ys.map Value.string) (by simp)
      (by
        intro j u hj
        rw [List.getElem?_map] at hj
        cases hy : ys[j]? with
        | none => rw [hy] at hj; simp at hj
        | some y =>
          rw [hy] at hj; simp at hj; subst hj
          rw [Addr.add_lit]; exact hx j y hy)
      (by
        intro u hu
        obtain ⟨y, _, rfl⟩ := List.mem_map.1 hu
        rfl)
      (by unfold maxLen; omega) (by omega) hbase
    refine ⟨v', w', hrun, by rw [List.length_append, List.map_append]; exact h2, ?_⟩
    have hT : Turned (fun k => base ≤ k) w w' := turned_grown h3 (fun g hg => by
      rcases hown.2 with ⟨rfl, _⟩ | ⟨g', cap, cur, rfl, h1, _⟩
      · simp [Value.ownBlock] at hg
      · simp [Value.ownBlock] at hg
        subst hg
        exact h1)
    exact hT.below hbase fun _ h => h
/-- An empty list that the call has made itself. -/
theorem built_none (W : World) : (W.alloc (.cells #[] 9)).ownsRow W.heap.size 9 1 (.slice (some ⟨W.heap.size, 0, none⟩) 0 0) ([] : List ByteArray).length (([] : List ByteArray).map Value.string) := by
  refine ⟨by simp, .inr ⟨W.heap.size, 0, #[], rfl, Nat.le_refl _, ?_, Nat.le_refl _, by simp [maxLen], by simp, by simp⟩⟩
  exact World.alloc_heap_new W _
theorem ownsRow_below {W W' : World} {base : Nat} {e : TypeId} {size : Nat} {v : Value} {n : Nat} {xs : List Value} (ho : W.ownsRow base e size v n xs) (hb : Below W.heap.size W W') : W'.ownsRow base e size v n xs := by
  refine ⟨ho.1, ?_⟩
  rcases ho.2 with hn | ⟨g, cap, cur, rfl, h1, hgg, rest⟩
  · exact .inl hn
  · refine .inr ⟨g, cap, cur, rfl, h1, ?_, rest⟩
    rw [hb.block g (Array.getElem?_eq_some_iff.1 hgg).1]
    exact hgg
theorem words_reads (t : BT) (hs : t.length ≤ 8796093022207) (W : World) :
    Calls Tryz.prog 19 #[.string (txt t)] W fun e W' => ∃ v, e = .returned v ∧ Reads W' W'.heap.size v ((wordsT t).map txt) ∧ Below W.heap.size W W' := by
  have := words_any (txt t) (by rw [txt_size]; exact hs) W
  rw [txt_data, wordsT_of] at this
  exact this
theorem cells_of {W : World} {base : Nat} {v : Value} {l : List BT} (h : W.ownsRow base 9 1 v (l.map txt).length ((l.map txt).map Value.string)) : ∃ o c, v = .slice o l.length c ∧ CellsW W o c l := by
  obtain ⟨o, c, hv, hx⟩ := (Reads.of_owns h).o
  rw [List.length_map] at hv hx
  exact ⟨o, c, hv, fun k x hk => hx k (txt x) (by rw [List.getElem?_map, hk]; rfl)⟩
end Go.Proofs.YtfdlcmjjnoapfaaGreatDoor
