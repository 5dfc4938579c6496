/-
  The document's own store: Id and Open.
-/
import Derived.Deep.RegionHeld3
import Derived.Deep.QuietTactic
import Derived.Deep.DeepCutAuto
import Derived.Deep.CutBlock
import Derived.BigQuiet
import Derived.Test.YtchnbnmajagpjaaGreatDoorBRef
namespace Go.Proofs.YtchnbnmajagpjaaGreatDoor
open Go.RowKit Go.Shelf Go.Maps

theorem In.cellAt {w0 w : World} {l : List Own} {b : Nat} {cs : List Value} {t : TypeId} (h : In w0 l w) (hm : oCells b cs t ∈ l) {i : Nat} {u : Value} (hu : cs[i]? = some u) : w.cell? ⟨b, i, none⟩ = some u ∧ w.frozen? ⟨b, i, none⟩ = false := by
  have hx := h.cells hm
  refine ⟨?_, Lib.frozen_of_heap hx i⟩
  rw [Lib.cell_of_heap hx]
  simpa using hu
theorem In.cellsR {w0 w : World} {l : List Own} {sb bm : Nat} {p : ByteArray} {v : Value} (h : In w0 l w) (hm : oCellsR sb bm p v ∈ l) :
    w.cell? ⟨sb, 0, none⟩ = some (.pointer (some ⟨bm, 0, none⟩)) ∧ w.cell? ⟨sb, 1, none⟩ = some (.string p) ∧ w.cell? ⟨sb, 2, none⟩ = some v ∧ w.frozen? ⟨sb, 2, none⟩ = false :=
  ⟨(h.cellAt hm (i := 0) rfl).1, (h.cellAt hm (i := 1) rfl).1, h.cellAt hm (i := 2) rfl⟩
theorem built_one_s (w : World) (t : ByteArray) : ReadsO (w.alloc (.cells #[.string t] 9)) (w.alloc (.cells #[.string t] 9)).heap.size (.slice (some ⟨w.heap.size, 0, none⟩) 1 1) [t] := by
  have := built_readsO w [t]
  rw [World.size_alloc]
  exact this

section
variable {w0 w : World} {l : List Own} {room : Int} {sb b n : Nat} {p : ByteArray} {L : List BS} {S : St}
set_option maxRecDepth 100000 in
set_option maxHeartbeats 4000000 in
theorem In.rbid (h : In w0 (oStoreR sb b p L :: oRef room b S :: l) w) (hg : Good room n S) (hn : n < 268435400) (hp : p.size ≤ 1048000) (hL : L.length < 1000000) (t : ByteArray) (ht : t.size ≤ 1000000) :
    Calls Tryz.prog 16 #[.pointer (some ⟨sb, 0, none⟩), .string t] w fun r w' => r = .returned (.tuple #[.int .i64 (bId room S p.data.toList L t.data.toList).1.1, .int .i64 (bId room S p.data.toList L t.data.toList).1.2]) ∧
      In w0 (oStoreR sb b p (bId room S p.data.toList L t.data.toList).2.1 :: oRef room b (bId room S p.data.toList L t.data.toList).2.2 :: l) w' := by
  have h0 := h
  obtain ⟨v, h1⟩ := h.opens
  replace h1 : In w0 (oCellsR sb b p v :: oTexts v L :: oRef room b S :: l) w := h1
  have hF := rfind_any (sb := sb) (bm := b) (p := p) (v := v) (L := L) h1 (by simp) (by simp) (by omega) t
  unfold bId
  by_cases hm : t.data.toList ∈ L
  · rw [if_pos hm]
    have hpos := find_pos.2 hm
    have HF := Lib.hid hF
    show Calls _ _ _ _ fun r w' => r = .returned (.tuple #[.int .i64 (findN L t.data.toList : Nat), .int .i64 0]) ∧ In w0 (oStoreR sb b p L :: oRef room b S :: l) w'
    generalize findN L t.data.toList = N at *
    clear hF hm hg h1 h
    go_enter Tryz.func16, Tryz.ntmps16
    go_wp2_with (go_at_call 25; refine HF.out.mono ?_; rintro e w2 ⟨rfl, rfl⟩)
    go_ret2
    exact ⟨rfl, h0⟩
  · rw [if_neg hm]
    rw [find_not hm] at hF
    have HF := Lib.hid hF
    have hba : Below w.heap.size w (w.alloc (.cells #[.string t] 9)).drew := below_drew ((Below.refl _ w).alloc (Nat.le_refl _) _)
    have hra : ReadsO (w.alloc (.cells #[.string t] 9)).drew (w.alloc (.cells #[.string t] 9)).drew.heap.size (.slice (some ⟨w.heap.size, 0, none⟩) 1 1) [t] := (built_one_s w t).below (below_drew (Below.refl _ _)) (Nat.le_refl _)
    have hA := (h1.below hba).third.rjadd hg hn p hp _ [t] hra ⟨by show 1 ≤ maxLen; decide, by intro x hx; simp at hx; rw [hx]; exact ht⟩
    rw [show rawOf [t] = [t.data.toList] from rfl] at hA
    obtain ⟨cd, hcd⟩ : ∃ cd, cd = (jAdd room S p.data.toList [t.data.toList]).1 := ⟨_, rfl⟩
    obtain ⟨S1, hS1⟩ : ∃ S1, S1 = (jAdd room S p.data.toList [t.data.toList]).2 := ⟨_, rfl⟩
    rw [← hcd, ← hS1] at hA ⊢
    have HA := Lib.hid hA
    obtain ⟨z0, z1, _⟩ := h1.cellsR (sb := sb) (bm := b) (p := p) (v := v) (by simp)
    have h1d := h1.below (below_drew (Below.refl _ _))
    obtain ⟨y0, y1, _⟩ := h1d.cellsR (sb := sb) (bm := b) (p := p) (v := v) (by simp)
    have h1a := h1.below hba
    obtain ⟨x0, x1, _⟩ := h1a.cellsR (sb := sb) (bm := b) (p := p) (v := v) (by simp)
    have x0' : (w.alloc (.cells #[.string t] 9)).cell? ⟨sb, 0, none⟩ = some (.pointer (some ⟨b, 0, none⟩)) := x0
    have x1' : (w.alloc (.cells #[.string t] 9)).cell? ⟨sb, 1, none⟩ = some (.string p) := x1
    by_cases hz : cd = 0
    · rw [if_pos hz]
      subst hz
      show Calls _ _ _ _ fun r w' => r = .returned (.tuple #[.int .i64 ((L.length : Int) + 1), .int .i64 0]) ∧ In w0 (oStoreR sb b p (L ++ [t.data.toList]) :: oRef room b S1 :: l) w'
      have HP : Hid (∀ w3, In w0 (oRef room b S1 :: oCellsR sb b p v :: oTexts v L :: l) w3 → ∃ vo vc, v = .slice vo L.length vc ∧ w3.cell? ⟨sb, 2, none⟩ = some v ∧ (w3.alloc (.cells #[] 9)).cell? ⟨sb, 2, none⟩ = some v ∧ ∃ o5 c5 w5, (Builtin.append_ #[39, 39] 39 #[.slice (some ⟨w3.heap.size, 0, none⟩) 0 0, v]).run Tryz.prog (w3.alloc (.cells #[] 9)) = .ok (.slice o5 L.length c5) w5 ∧
          ∃ o6 c6 w6, (Builtin.append_ #[39, 39] 39 #[.slice o5 L.length c5, .slice (some ⟨w5.heap.size, 0, none⟩) 1 1]).run Tryz.prog (w5.alloc (.cells #[.string t] 9)) = .ok (.slice o6 (L.length + 1) c6) w6 ∧
            w6.cell? ⟨sb, 2, none⟩ = some v ∧ w6.frozen? ⟨sb, 2, none⟩ = false ∧ In w0 (oStoreR sb b p (L ++ [t.data.toList]) :: oRef room b S1 :: l) (w6.setCell ⟨sb, 2, none⟩ (.slice o6 (L.length + 1) c6))) := by
        intro w3 h3
        obtain ⟨vo, vc, hv, _⟩ := textsAt h3 (v := v) (L := L) (by simp)
        refine ⟨vo, vc, hv, (h3.cellsR (sb := sb) (bm := b) (p := p) (v := v) (by simp)).2.2.1, ((h3.below ((Below.refl _ w3).alloc (Nat.le_refl _) _)).cellsR (sb := sb) (bm := b) (p := p) (v := v) (by simp)).2.2.1, ?_⟩
        obtain ⟨o5, c5, w5, hrun5, h5⟩ := In.copy rowStr h3 (v := v) (xs := L) (enc := encS) (by simp) (fun _ => rfl) (fun _ => by simp [encS, Value.oneCell']) (by omega) 39
        refine ⟨o5, c5, w5, hrun5, ?_⟩
        obtain ⟨o6, c6, w6, hrun6, h6⟩ := In.push rowStr h5 t.data.toList rfl (by simp [encS, Value.oneCell']) (by omega) 39
        rw [show (encS t.data.toList).toArray = #[.string t] by simp [encS, txt_toList]] at hrun6
        obtain ⟨_, _, f1, f2⟩ := h6.cellsR (sb := sb) (bm := b) (p := p) (v := v) (by simp)
        refine ⟨o6, c6, w6, hrun6, f1, f2, ?_⟩
        have h7 : In w0 (oCellsR sb b p v :: oTexts (.slice o6 (L.length + 1) c6) (L ++ [t.data.toList]) :: oRef room b S1 :: oTexts v L :: l) w6 := h6.third
        have h8 := h7.set 2 (.slice o6 (L.length + 1) c6)
        have h9 : In w0 ([oCellsR sb b p (.slice o6 (L.length + 1) c6), oTexts (.slice o6 (L.length + 1) c6) (L ++ [t.data.toList])] ++ (oRef room b S1 :: oTexts v L :: l)) (w6.setCell ⟨sb, 2, none⟩ (.slice o6 (L.length + 1) c6)) := h8
        have h10 := In.closes (f := fun v : Value => [oCellsR sb b p v, oTexts v (L ++ [t.data.toList])]) (.slice o6 (L.length + 1) c6) h9
        exact h10.third.tail
      clear hcd hS1 hA hra hba h1a h1d h1 h h0 hF hm hg
      go_enter Tryz.func16, Tryz.ntmps16
      go_wp2_with (go_at_call 25; refine HF.out.mono ?_; rintro e w2 ⟨rfl, rfl⟩)
      go_region_held3 (fun W => W.cell? ⟨sb, 0, none⟩ = some (.pointer (some ⟨b, 0, none⟩)) ∧ W.cell? ⟨sb, 1, none⟩ = some (.string p))
        (first | exact ⟨by assumption, by assumption⟩)
        (first | (go_at_call 20; refine HA.out.mono ?_; rintro e w3 ⟨rfl, h3⟩; obtain ⟨n0, n1, _⟩ := h3.cellsR (sb := sb) (bm := b) (p := p) (v := v) (by simp)))
      obtain ⟨vo, vc, rfl, g0, g1, o5, c5, w5, hrun5, o6, c6, w6, hrun6, g2, g3, hfin⟩ := HP.out _ h3
      have HFin := Lib.hid hfin
      clear hfin h3 HP
      go_wp2_with (first
        | (at_builtin; refine wpList_append_eq rfl _ _ 39 rfl (.slice (some ⟨w3.heap.size, 0, none⟩) 0 0) (.slice vo L.length vc) (.slice o5 L.length c5) w5 rfl rfl hrun5 ?_)
        | (at_builtin; refine wpList_append_eq rfl _ _ 39 rfl (.slice o5 L.length c5) (.slice (some ⟨w5.heap.size, 0, none⟩) 1 1) (.slice o6 (L.length + 1) c6) w6 rfl rfl hrun6 ?_))
      go_ret2
      exact ⟨rfl, HFin.out⟩
    · rw [if_neg hz]
      have e0 : (cd != 0) = true := by simpa using hz
      have HS2 : Hid (∀ w3, In w0 (oRef room b S1 :: oCellsR sb b p v :: oTexts v L :: l) w3 → In w0 (oStoreR sb b p L :: oRef room b S1 :: l) w3) := fun w3 h3 =>
        In.closes (f := fun v : Value => [oCellsR sb b p v, oTexts v L]) v h3.second
      clear hcd hS1 hA hra hba h1a h1d h1 h h0 hF hm hg hz
      go_enter Tryz.func16, Tryz.ntmps16
      go_wp2_with (go_at_call 25; refine HF.out.mono ?_; rintro e w2 ⟨rfl, rfl⟩)
      go_region_held3 (fun W => W.cell? ⟨sb, 0, none⟩ = some (.pointer (some ⟨b, 0, none⟩)) ∧ W.cell? ⟨sb, 1, none⟩ = some (.string p))
        (first | exact ⟨by assumption, by assumption⟩)
        (first | (go_at_call 20; refine HA.out.mono ?_; rintro e w3 ⟨rfl, h3⟩; obtain ⟨n0, n1, _⟩ := h3.cellsR (sb := sb) (bm := b) (p := p) (v := v) (by simp)))
      go_wp2
      go_ret2
      exact ⟨rfl, HS2.out _ h3⟩
end

end Go.Proofs.YtchnbnmajagpjaaGreatDoor
