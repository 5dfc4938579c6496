/-
  The document's own store: Open. No condition.
-/
import Derived.Deep.RegionHeld3
import Derived.Deep.QuietTactic
import Derived.Deep.DeepCutAuto
import Derived.Deep.CutBlock
import Derived.BigQuiet
import Derived.Test.YtchnbnmajagpjaaGreatDoorBOpen
namespace Go.Proofs.YtchnbnmajagpjaaGreatDoor
open Go.RowKit Go.Shelf Go.Maps

section
variable {w0 w : World} {l : List Own} {room : Int} {sb bt b n : Nat} {p : ByteArray} {v : Value} {L : List BS} {S : St}
theorem In.rstore (h : In w0 (oStoreR sb b p L :: l) w) : ∃ v, In w0 (oCellsR sb b p v :: oTexts v L :: l) w := by
  obtain ⟨v, h1⟩ := h.opens
  exact ⟨v, h1⟩
theorem In.rstored (h : In w0 (oCellsR sb b p v :: oTexts v L :: l) w) : In w0 (oStoreR sb b p L :: l) w :=
  In.closes (f := fun v : Value => [oCellsR sb b p v, oTexts v L]) v h
theorem In.rfind (h : In w0 l w) (hm : oStoreR sb b p L ∈ l) (hL : L.length < 1073741824) (s : ByteArray) :
    Calls Tryz.prog 25 #[.pointer (some ⟨sb, 0, none⟩), .string s] w fun e w' => e = .returned (.int .i64 (findN L s.data.toList : Nat)) ∧ w = w' := by
  obtain ⟨v, h1⟩ := (h.only hm).rstore
  exact rfind_any (sb := sb) (bm := b) (p := p) (v := v) h1 (by simp) (by simp) hL s
theorem In.rtext (h : In w0 l w) (hm : oStoreR sb b p L ∈ l) (hL : L.length < 1073741824) (i : Int) (hi : -9223372036854775808 ≤ i ∧ i ≤ 9223372036854775807) :
    Calls Tryz.prog 22 #[.pointer (some ⟨sb, 0, none⟩), .int .i64 i] w fun e w' => e = .returned (.tuple #[.string (textAt L i).1, .bool (textAt L i).2]) ∧ w = w' := by
  obtain ⟨v, h1⟩ := (h.only hm).rstore
  exact rtext_any (sb := sb) (bm := b) (p := p) (v := v) h1 (by simp) (by simp) hL i hi
/-- A row of the lists that are kept. -/
abbrev oKept (v : Value) (us : List Value) : Own := oRow 39 1 (fun u : Value => [u]) v us
/-- A new store of the document's. -/
theorem In.newRef (h : In w0 l w) (b : Nat) (p : ByteArray) :
    In w0 (oStoreR w.heap.size b p [] :: oKept (.slice none 0 0) [] :: l) (w.alloc (.cells #[.pointer (some ⟨b, 0, none⟩), .string p, .slice none 0 0] 51)) :=
  (((h.empty 39 1 (fun u : Value => [u])).empty 9 1 encS).alloc [.pointer (some ⟨b, 0, none⟩), .string p, .slice none 0 0] 51).rstored
/-- What lies where in a record. -/
theorem In.rec {vals : List Value} {xss : List (List ByteArray)} {ol : Option Addr} {cl : Nat} (h : In w0 l w) (hm : oVals (.slice ol xss.length cl) vals xss ∈ l) {k : Nat} (hk : k < xss.length) :
    ∃ bb f o c, ol = some ⟨bb, f, none⟩ ∧ xss.length ≤ cl ∧ vals[k]? = some (.slice o xss[k].length c) ∧ (∀ W l2, In w0 l2 W → oVals (.slice ol xss.length cl) vals xss ∈ l2 → W.cell? ⟨bb, f + k, none⟩ = some (.slice o xss[k].length c)) ∧
      ∀ x, xss[k] = [x] → ∃ b2 f2, o = some ⟨b2, f2, none⟩ ∧ 1 ≤ c ∧ w.cell? ⟨b2, f2, none⟩ = some (.string x) := by
  obtain ⟨o', c', hv', _, hx⟩ := h.valsAt hm
  injection hv' with a1 _ a3
  subst a1 a3
  obtain ⟨bb, f, u, q1, q2, q3, q4, o, c, rfl, q5⟩ := hx k _ (List.getElem?_eq_getElem hk)
  refine ⟨bb, f, o, c, q1, q2, q4, fun W l2 hW hm2 => ?_, fun x hx1 => ?_⟩
  · obtain ⟨o', c', hv', _, hx⟩ := hW.valsAt hm2
    injection hv' with a1 _ a3
    subst a1 a3
    obtain ⟨bb', f', u', r1, _, r3, r4, _⟩ := hx k _ (List.getElem?_eq_getElem hk)
    rw [q1] at r1
    cases r1
    rw [q4] at r4
    rw [r3, Option.some.inj r4]
  · obtain ⟨b2, f2, r1, _, r3, r4⟩ := q5 0 x (by rw [hx1]; rfl)
    rw [hx1] at r3
    exact ⟨b2, f2, r1, r3, r4⟩

/-- A record is kept: what each operation comes to. -/
theorem In.keeps {vl kv u : Value} {vals : List Value} {xss : List (List ByteArray)} {k : Nat} (h : In w0 (oStoreR sb b p L :: oKept kv (vals.take k) :: oVals vl vals xss :: l) w) (hL : L.length < 1000000) (hk : vals[k]? = some u) (hu : u.oneCell' = true) (hkl : k < 1000000) (t : ByteArray) :
    ∃ vo vc o6 c6 w6 o8 c8 w8, w.cell? ⟨sb, 2, none⟩ = some (.slice vo L.length vc) ∧ (w.alloc (.cells #[.string t] 9)).cell? ⟨sb, 2, none⟩ = some (.slice vo L.length vc) ∧
      (Builtin.append_ #[39, 39] 39 #[.slice vo L.length vc, .slice (some ⟨w.heap.size, 0, none⟩) 1 1]).run Tryz.prog (w.alloc (.cells #[.string t] 9)).drew = .ok (.slice o6 (L.length + 1) c6) w6 ∧
      w6.cell? ⟨sb, 2, none⟩ = some (.slice vo L.length vc) ∧ w6.frozen? ⟨sb, 2, none⟩ = false ∧
      In w0 (oStoreR sb b p (L ++ [t.data.toList]) :: oKept kv (vals.take k) :: oVals vl vals xss :: l) (w6.setCell ⟨sb, 2, none⟩ (.slice o6 (L.length + 1) c6)) ∧
      (Builtin.append_ #[63, 63] 63 #[kv, .slice (some ⟨w6.heap.size, 0, none⟩) 1 1]).run Tryz.prog ((w6.setCell ⟨sb, 2, none⟩ (.slice o6 (L.length + 1) c6)).alloc (.cells #[u] 39)) = .ok (.slice o8 (k + 1) c8) w8 ∧
      In w0 (oStoreR sb b p (L ++ [t.data.toList]) :: oKept (.slice o8 (k + 1) c8) (vals.take (k + 1)) :: oVals vl vals xss :: l) w8 := by
  obtain ⟨v, h1⟩ := h.rstore
  obtain ⟨vo, vc, rfl, _⟩ := textsAt h1 (v := v) (L := L) (by simp)
  have g2 := (h1.cellsR (sb := sb) (bm := b) (p := p) (v := .slice vo L.length vc) (by simp)).2.2.1
  have g3 := ((h1.below ((Below.refl _ w).alloc (Nat.le_refl _) (.cells #[.string t] 9))).cellsR (sb := sb) (bm := b) (p := p) (v := .slice vo L.length vc) (by simp)).2.2.1
  obtain ⟨o6, c6, w6, hrun6, h6⟩ := In.push rowStr (h1.below (below_drew (Below.refl _ _))).swap t.data.toList rfl (by simp [encS, Value.oneCell']) (by omega) 39
  rw [show (encS t.data.toList).toArray = #[.string t] by simp [encS, txt_toList]] at hrun6
  obtain ⟨_, _, f1, f2⟩ := h6.cellsR (sb := sb) (bm := b) (p := p) (v := .slice vo L.length vc) (by simp)
  have h7 := (h6.swap.set 2 (.slice o6 (L.length + 1) c6))
  replace h7 : In w0 (oCellsR sb b p (.slice o6 (L.length + 1) c6) :: oTexts (.slice o6 (L.length + 1) c6) (L ++ [t.data.toList]) :: oKept kv (vals.take k) :: oVals vl vals xss :: l) (w6.setCell ⟨sb, 2, none⟩ (.slice o6 (L.length + 1) c6)) := h7
  have h8 := h7.rstored
  have hkv := (List.getElem?_eq_some_iff.1 hk).1
  have e1 : (vals.take k).length = k := by rw [List.length_take]; omega
  obtain ⟨o8, c8, w8, hrun8, h9⟩ := In.push rowLists h8.swap u rfl (by simpa using hu) (by rw [e1]; omega) 63
  rw [e1] at hrun8 h9
  have e2 : vals.take k ++ [u] = vals.take (k + 1) := by rw [List.take_add_one, hk]; rfl
  rw [e2] at h9
  rw [show (w6.setCell ⟨sb, 2, none⟩ (.slice o6 (L.length + 1) c6)).heap.size = w6.heap.size by simp] at hrun8
  exact ⟨vo, vc, o6, c6, w6, o8, c8, w8, g2, g3, hrun6, f1, f2, h8, hrun8, h9.swap⟩
end

end Go.Proofs.YtchnbnmajagpjaaGreatDoor
