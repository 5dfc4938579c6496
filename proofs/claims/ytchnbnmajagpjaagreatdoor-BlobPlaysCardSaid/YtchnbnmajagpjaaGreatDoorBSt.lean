/-
  The program's own store: its texts in order, and a map of their numbers: Find, Text, Len, keep, Id. No condition.
-/
import Derived.Deep.RegionHeld3
import Derived.Deep.QuietTactic
import Derived.Deep.DeepCutAuto
import Derived.Deep.CutBlock
import Derived.BigQuiet
import Derived.Maps.OwnOps
import Derived.Maps.OwnSet
import Derived.Maps.Ext
import Derived.Test.YtchnbnmajagpjaaGreatDoorBRef2
namespace Go.Proofs.YtchnbnmajagpjaaGreatDoor
open Go.RowKit Go.Shelf Go.Maps

/-! ### numbers by texts -/
theorem zeroI (w : World) : (zeroValue 3).run Tryz.prog w = .ok (.int .i64 0) w := by kernel_rfl
/-- Block b holds the numbers of the texts L. -/
def IsIds (w : World) (b : Nat) (L : List BS) : Prop :=
  ∃ n, ∃ D : DataW Unit, w.ownsMap Tryz.prog 9 (plainElem Tryz.prog 3) b n D ∧ n ≤ L.length ∧ ∀ t : BS, D.atKey (.string t) (.lit (.int .i64 0)) = .lit (.int .i64 (findN L t : Nat))
theorem IsIds.lt {w : World} {b : Nat} {L : List BS} (h : IsIds w b L) : b < w.heap.size := let ⟨_, _, h1, _⟩ := h; h1.lt
theorem IsIds.kept {w w' : World} {b : Nat} {L : List BS} (h : IsIds w b L) (hb : w'.heap[b]? = w.heap[b]?) : IsIds w' b L := by
  obtain ⟨n, D, ⟨es, clock, hh, r⟩, h2⟩ := h
  exact ⟨n, D, ⟨es, clock, hb.trans hh, r⟩, h2⟩
theorem IsIds.made (w : World) : IsIds (w.alloc (.map #[] 0)) w.heap.size [] :=
  ⟨0, .map [], World.ownsMap_made w _ _ _, Nat.le_refl _, fun t => by rw [find_not (by simp)]; rfl⟩
theorem lit_inj {a b : Int} (h : (DataW.lit (.int .i64 a) : DataW Unit) = .lit (.int .i64 b)) : a = b := by
  injection h with e
  injection e
theorem atKey_same {D : DataW Unit} (hD : IsMap D) (t : BS) (d z : DataW Unit) : (D.put (.string t) d).atKey (.string t) z = d := atKey_put_same (k := .string t) hD trivial d z
theorem atKey_other {D : DataW Unit} {t s : BS} (hne : t ≠ s) (d z : DataW Unit) : (D.put (.string s) d).atKey (.string t) z = D.atKey (.string t) z := atKey_put_other (k' := .string t) (k := .string s) (fun e => hne (by injection e)) d z
set_option maxRecDepth 100000 in
theorem IsIds.look {w : World} {b : Nat} {L : List BS} (h : IsIds w b L) (s : ByteArray) (hs : s.size ≤ maxLen) :
    (Instr.lookup 66 (.map (some b)) (.string s) false).run Tryz.prog w = .ok (.int .i64 (findN L s.data.toList : Nat)) w := by
  obtain ⟨n, D, h1, _, h3⟩ := h
  obtain ⟨c, hrun, hat, _⟩ := h1.lookup_int lawK Tryz.underlying66 Tryz.underlying3 (zeroI w) (hkeyS hs)
  rw [h3] at hat
  rw [hrun, lit_inj hat]
set_option maxRecDepth 100000 in
theorem IsIds.put {w : World} {b : Nat} {L : List BS} (h : IsIds w b L) (s : ByteArray) (hs : s.size ≤ maxLen) (hL : L.length < 1000000) (hn : s.data.toList ∉ L) :
    ∃ w', (Instr.mapUpdate 66 (.map (some b)) (.string s) (.int .i64 ((L.length : Int) + 1))).run Tryz.prog w = .ok () w' ∧ IsIds w' b (L ++ [s.data.toList]) ∧ w.mapTurned w' b := by
  obtain ⟨n, D, h1, h2, h3⟩ := h
  have hwf : (Lit.int .i64 ((L.length : Int) + 1)).wf = true := WalkArith.wf_i64 (by omega)
  obtain ⟨w', r1, r2, r3⟩ := h1.store lawK Tryz.underlying66 (by unfold maxLen; omega) (hkeyS hs) (plainElem_int Tryz.underlying3 hwf)
  refine ⟨w', r1, ⟨n + 1, _, r2, by rw [List.length_append]; simpa using h2, fun t => ?_⟩, r3⟩
  by_cases ht : t = s.data.toList
  · subst ht
    rw [atKey_same h1.isMap, find_new hn, Int.natCast_succ]
  · rw [atKey_other ht, h3]
    have : findN (L ++ [s.data.toList]) t = findN L t := by
      by_cases hm : t ∈ L
      · rw [find_app hm]
      · rw [find_not hm, find_not (by simp [hm, ht])]
    rw [this]

/-! ### the store -/
/-- The cells of the program's store. -/
abbrev oCellsP (sb bt : Nat) (p : ByteArray) (v : Value) (m : Nat) : Own := oCells sb [.pointer (some ⟨bt, 0, none⟩), .string p, v, .map (some m)] 68
def oIds (m : Nat) (L : List BS) : Own where
  holds w X := IsIds w m L ∧ ∀ n, X n ↔ n = m
  kept h hT hd := ⟨h.1.kept (hT.block m h.1.lt (hd m ((h.2 m).2 rfl))), h.2⟩
  lt h n hn := by rw [(h.2 n).1 hn]; exact h.1.lt
/-- The program's store. -/
def oStore (sb bt : Nat) (p : ByteArray) (L : List BS) : Own := oEx fun y : Value × Nat => [oCellsP sb bt p y.1 y.2, oTexts y.1 L, oIds y.2 L]
section
variable {w0 w : World} {l : List Own} {sb bt m : Nat} {p : ByteArray} {v : Value} {L : List BS} {e : Own}
theorem In.only (h : In w0 l w) (hm : e ∈ l) : In w0 [e] w := by
  obtain ⟨X, h1, h2⟩ := h.get hm
  exact ⟨X, os_mk h1, h2, h.back⟩
theorem In.ids (h : In w0 l w) (hm : oIds m L ∈ l) : IsIds w m L := by
  obtain ⟨X, h1, _⟩ := h.get hm
  exact h1.1
theorem In.cellsP (h : In w0 l w) (hm : oCellsP sb bt p v m ∈ l) :
    w.cell? ⟨sb, 0, none⟩ = some (.pointer (some ⟨bt, 0, none⟩)) ∧ w.cell? ⟨sb, 1, none⟩ = some (.string p) ∧ w.cell? ⟨sb, 2, none⟩ = some v ∧ w.cell? ⟨sb, 3, none⟩ = some (.map (some m)) ∧ w.frozen? ⟨sb, 2, none⟩ = false :=
  ⟨(h.cellAt hm (i := 0) rfl).1, (h.cellAt hm (i := 1) rfl).1, (h.cellAt hm (i := 2) rfl).1, (h.cellAt hm (i := 3) rfl).1, (h.cellAt hm (i := 2) rfl).2⟩

set_option maxRecDepth 100000 in
set_option maxHeartbeats 4000000 in
theorem bfind_at (h : In w0 l w) (h1 : oCellsP sb bt p v m ∈ l) (h2 : oIds m L ∈ l) (s : ByteArray) (hs : s.size ≤ maxLen) :
    Calls Tryz.prog 24 #[.pointer (some ⟨sb, 0, none⟩), .string s] w fun e w' => e = .returned (.int .i64 (findN L s.data.toList : Nat)) ∧ w = w' := by
  have hrun := (h.ids h2).look s hs
  obtain ⟨_, _, _, c3, _⟩ := h.cellsP h1
  generalize findN L s.data.toList = k at hrun ⊢
  clear h h1 h2
  go_enter Tryz.func24, Tryz.ntmps24
  go_wp2
  go_ret
  exact ⟨rfl, rfl⟩

set_option maxRecDepth 100000 in
set_option maxHeartbeats 4000000 in
theorem blen_at (h : In w0 l w) (h1 : oCellsP sb bt p v m ∈ l) (h2 : oTexts v L ∈ l) :
    Calls Tryz.prog 23 #[.pointer (some ⟨sb, 0, none⟩)] w fun e w' => e = .returned (.int .i64 L.length) ∧ w = w' := by
  obtain ⟨o, c, rfl, _⟩ := textsAt h h2
  obtain ⟨_, _, c2, _, _⟩ := h.cellsP h1
  clear h h1 h2
  go_enter Tryz.func23, Tryz.ntmps23
  go_wp2
  go_ret
  exact ⟨rfl, rfl⟩

set_option maxRecDepth 100000 in
set_option maxHeartbeats 4000000 in
theorem btext_at (h : In w0 l w) (h1 : oCellsP sb bt p v m ∈ l) (h2 : oTexts v L ∈ l) (hL : L.length < 1073741824) (i : Int) (hi : -9223372036854775808 ≤ i ∧ i ≤ 9223372036854775807) :
    Calls Tryz.prog 21 #[.pointer (some ⟨sb, 0, none⟩), .int .i64 i] w fun e w' => e = .returned (.tuple #[.string (textAt L i).1, .bool (textAt L i).2]) ∧ w = w' := by
  have HLen := Lib.hid (blen_at h h1 h2)
  obtain ⟨o, c, rfl, hcl, hrow⟩ := textsAt h h2
  obtain ⟨_, _, c2, _, _⟩ := h.cellsP h1
  have HC := Lib.hid hrow
  clear h h1 h2 hrow
  by_cases hi1 : i < 1
  · rw [text_out (.inl hi1)]
    have d1 : decide (i < 1) = true := by simp; omega
    clear hi1
    go_enter Tryz.func21, Tryz.ntmps21
    go_wp2
    go_ret2
    exact ⟨rfl, rfl⟩
  · have d1 : decide (i < 1) = false := by simp; omega
    by_cases hi2 : (L.length : Int) < i
    · rw [text_out (.inr hi2)]
      have d2 : decide ((L.length : Int) < i) = true := by simp; omega
      clear hi1 hi2
      go_enter Tryz.func21, Tryz.ntmps21
      go_wp2_with (go_at_call 23; refine HLen.out.mono ?_; rintro e w2 ⟨rfl, rfl⟩)
      go_ret2
      exact ⟨rfl, rfl⟩
    · obtain ⟨k, rfl⟩ : ∃ k : Nat, i = (k : Int) + 1 := ⟨(i - 1).toNat, by omega⟩
      have hlt : k < L.length := by omega
      have hy := List.getElem?_eq_getElem hlt
      obtain ⟨hkc, g, rfl, hcell⟩ := HC.out k _ hy
      rw [text_in hy]
      generalize txt L[k] = sp at hcell ⊢
      have d2 : decide ((L.length : Int) < (k : Int) + 1) = false := by simp; omega
      have e1 : (k : Int) + 1 - 1 = (k : Int) := by omega
      have e2 : IntKind.i64.wrap (k : Int) = (k : Int) := by rw [IntKind.wrap_i64]; omega
      have hi3 : (0 : Int) ≤ (k : Int) := by omega
      have hi4 : (k : Int) < (L.length : Int) := by omega
      clear hy hi1 hi2 hi
      go_enter Tryz.func21, Tryz.ntmps21
      go_wp2_with (go_at_call 23; refine HLen.out.mono ?_; rintro e w2 ⟨rfl, rfl⟩)
      go_ret2
      exact ⟨rfl, rfl⟩
/-- What lies where in a store. -/
theorem In.store (h : In w0 (oStore sb bt p L :: l) w) : ∃ v m, In w0 (oCellsP sb bt p v m :: oTexts v L :: oIds m L :: l) w := by
  obtain ⟨⟨v, m⟩, h1⟩ := h.opens
  exact ⟨v, m, h1⟩
theorem In.stored (h : In w0 (oCellsP sb bt p v m :: oTexts v L :: oIds m L :: l) w) : In w0 (oStore sb bt p L :: l) w :=
  In.closes (f := fun y : Value × Nat => [oCellsP sb bt p y.1 y.2, oTexts y.1 L, oIds y.2 L]) (v, m) h
theorem In.bfind (h : In w0 l w) (hm : oStore sb bt p L ∈ l) (s : ByteArray) (hs : s.size ≤ maxLen) :
    Calls Tryz.prog 24 #[.pointer (some ⟨sb, 0, none⟩), .string s] w fun e w' => e = .returned (.int .i64 (findN L s.data.toList : Nat)) ∧ w = w' := by
  obtain ⟨v, m, h1⟩ := (h.only hm).store
  exact bfind_at (bt := bt) (p := p) (v := v) (m := m) h1 (by simp) (by simp) s hs
theorem In.blen (h : In w0 l w) (hm : oStore sb bt p L ∈ l) :
    Calls Tryz.prog 23 #[.pointer (some ⟨sb, 0, none⟩)] w fun e w' => e = .returned (.int .i64 L.length) ∧ w = w' := by
  obtain ⟨v, m, h1⟩ := (h.only hm).store
  exact blen_at (bt := bt) (p := p) (m := m) (v := v) h1 (by simp) (by simp)
theorem In.btext (h : In w0 l w) (hm : oStore sb bt p L ∈ l) (hL : L.length < 1073741824) (i : Int) (hi : -9223372036854775808 ≤ i ∧ i ≤ 9223372036854775807) :
    Calls Tryz.prog 21 #[.pointer (some ⟨sb, 0, none⟩), .int .i64 i] w fun e w' => e = .returned (.tuple #[.string (textAt L i).1, .bool (textAt L i).2]) ∧ w = w' := by
  obtain ⟨v, m, h1⟩ := (h.only hm).store
  exact btext_at (bt := bt) (p := p) (m := m) (v := v) h1 (by simp) (by simp) hL i hi

set_option maxRecDepth 100000 in
set_option maxHeartbeats 4000000 in
theorem In.bkeep (h : In w0 (oStore sb bt p L :: l) w) (hL : L.length < 1000000) (t : ByteArray) (ht : t.size ≤ maxLen) (hn : t.data.toList ∉ L) :
    Calls Tryz.prog 39 #[.pointer (some ⟨sb, 0, none⟩), .string t] w fun r w' => r = .returned (.tuple #[]) ∧ In w0 (oStore sb bt p (L ++ [t.data.toList]) :: l) w' := by
  obtain ⟨v, m, h1⟩ := h.store
  obtain ⟨vo, vc, hv, _⟩ := textsAt h1 (v := v) (L := L) (by simp)
  obtain ⟨_, _, x2, _, _⟩ := h1.cellsP (sb := sb) (bt := bt) (p := p) (v := v) (m := m) (by simp)
  have x2' := ((h1.below ((Below.refl _ w).alloc (Nat.le_refl _) (.cells #[.string t] 9))).cellsP (sb := sb) (bt := bt) (p := p) (v := v) (m := m) (by simp)).2.2.1
  obtain ⟨o6, c6, w6, hrun6, h6⟩ := In.push rowStr h1.swap t.data.toList rfl (by simp [encS, Value.oneCell']) (by omega) 39
  rw [show (encS t.data.toList).toArray = #[.string t] by simp [encS, txt_toList]] at hrun6
  obtain ⟨_, _, f1, _, f2⟩ := h6.cellsP (sb := sb) (bt := bt) (p := p) (v := v) (m := m) (by simp)
  have h7 := h6.swap.set 2 (.slice o6 (L.length + 1) c6)
  replace h7 : In w0 (oCellsP sb bt p (.slice o6 (L.length + 1) c6) m :: oTexts (.slice o6 (L.length + 1) c6) (L ++ [t.data.toList]) :: oIds m L :: l) (w6.setCell ⟨sb, 2, none⟩ (.slice o6 (L.length + 1) c6)) := h7
  have h8 := h7.below (below_drew (Below.refl _ _))
  have HLen := Lib.hid (blen_at h8 (sb := sb) (bt := bt) (p := p) (m := m) (v := .slice o6 (L.length + 1) c6) (L := L ++ [t.data.toList]) (by simp) (by simp))
  rw [show ((L ++ [t.data.toList]).length : Int) = (L.length : Int) + 1 by rw [List.length_append]; rfl] at HLen
  obtain ⟨_, _, _, y3, _⟩ := h8.cellsP (sb := sb) (bt := bt) (p := p) (v := .slice o6 (L.length + 1) c6) (m := m) (by simp)
  obtain ⟨w9, hrun9, hI9, hT9⟩ := (h8.ids (m := m) (L := L) (by simp)).put t ht hL hn
  have h9 : In w0 (oIds m (L ++ [t.data.toList]) :: oCellsP sb bt p (.slice o6 (L.length + 1) c6) m :: oTexts (.slice o6 (L.length + 1) c6) (L ++ [t.data.toList]) :: l) w9 :=
    h8.third.one fun X hX => ⟨X, ⟨hI9, hX.2⟩, (turned_map hT9).wider fun n hn => (hX.2 n).2 hn, fun _ => .inl⟩
  obtain ⟨_, _, _, z3, _⟩ := h9.cellsP (sb := sb) (bt := bt) (p := p) (v := .slice o6 (L.length + 1) c6) (m := m) (by simp)
  have HFin := Lib.hid h9.second.stored
  obtain ⟨W7, hW7⟩ : ∃ W7, W7 = w6.setCell ⟨sb, 2, none⟩ (.slice o6 (L.length + 1) c6) := ⟨_, rfl⟩
  clear h h1 h6 h7 h8 h9 hI9 hT9
  subst hv
  go_enter Tryz.func39, Tryz.ntmps39
  go_wp2_with (at_builtin; refine wpList_append_eq rfl _ _ 39 rfl (.slice vo L.length vc) (.slice (some ⟨w.heap.size, 0, none⟩) 1 1) (.slice o6 (L.length + 1) c6) w6 rfl rfl hrun6 ?_)
  rw [← hW7] at HLen y3 hrun9 ⊢
  clear hW7
  go_region_held3 (fun W => W.cell? ⟨sb, 3, none⟩ = some (.map (some m)))
    (first | assumption)
    (first | (go_at_call 23; refine HLen.out.mono ?_; rintro e w2 ⟨rfl, rfl⟩))
  go_end0
  exact ⟨rfl, HFin.out⟩
end

end Go.Proofs.YtchnbnmajagpjaaGreatDoor
