/-
  The document's own store: a row of texts: Find and Text; and what both stores share.
-/
import Derived.Deep.QuietTactic
import Derived.BigQuiet
import Derived.Test.YtchnbnmajagpjaaGreatDoorKIn
import Derived.Test.YtchnbnmajagpjaaGreatDoorBlobM
namespace Go.Proofs.YtchnbnmajagpjaaGreatDoor
open Go.RowKit Go.Shelf Go.Maps

abbrev encS (t : BS) : List Value := [.string (txt t)]
abbrev oTexts (v : Value) (L : List BS) : Own := oRow 9 1 encS v L
theorem rowStr : RowT 39 9 1 := rowT_of (.string ⟨#[]⟩) 16 Tryz.underlying39 (by kernel_rfl) (by decide) rfl (by decide)
theorem rowLists : RowT 63 39 1 := rowT_of (.slice none 0 0) 24 Tryz.underlying63 (by kernel_rfl) (by decide) rfl (by decide)
theorem findN_at {L : List BS} {k : Nat} {t : BS} (h : L[k]? = some t) (hn : t ∉ L.take k) : findN L t = k + 1 := by
  have hkl := (List.getElem?_eq_some_iff.1 h).1
  have he := (List.getElem?_eq_some_iff.1 h).2
  have hm : t ∈ L := by rw [← he]; exact List.getElem_mem hkl
  rw [find_mem hm]
  have : L.idxOf t = k := by
    conv => lhs; rw [← List.take_append_drop k L]
    rw [List.idxOf_append, if_neg hn, List.drop_eq_getElem_cons hkl, he, List.idxOf_cons_self, List.length_take]
    omega
  rw [this]
/-- What Text tells. -/
def textAt (L : List BS) (i : Int) : ByteArray × Bool := if 1 ≤ i ∧ i ≤ (L.length : Int) then (txt (L.getD (i - 1).toNat []), true) else (⟨#[]⟩, false)
theorem text_in {L : List BS} {k : Nat} {t : BS} (h : L[k]? = some t) : textAt L ((k : Int) + 1) = (txt t, true) := by
  have hkl := (List.getElem?_eq_some_iff.1 h).1
  unfold textAt
  rw [if_pos (by omega), Int.add_sub_cancel]
  simp [List.getD, h]
theorem text_out {L : List BS} {i : Int} (h : i < 1 ∨ (L.length : Int) < i) : textAt L i = (⟨#[]⟩, false) := by
  unfold textAt
  rw [if_neg (by omega)]

/-- The cells of the document's store. -/
abbrev oCellsR (sb bm : Nat) (p : ByteArray) (v : Value) : Own := oCells sb [.pointer (some ⟨bm, 0, none⟩), .string p, v] 51
/-- The document's store. -/
def oStoreR (sb bm : Nat) (p : ByteArray) (L : List BS) : Own := oEx fun v : Value => [oCellsR sb bm p v, oTexts v L]
section
variable {w0 w : World} {l : List Own} {sb bm : Nat} {p : ByteArray} {v : Value} {L : List BS}
/-- What lies where. -/
theorem textsAt (h : In w0 l w) (h2 : oTexts v L ∈ l) : ∃ o c, v = .slice o L.length c ∧ L.length ≤ c ∧ ∀ k y, L[k]? = some y → k < c ∧ ∃ g, o = some ⟨g, 0, none⟩ ∧ w.cell? ⟨g, k, none⟩ = some (.string (txt y)) := by
  obtain ⟨o, c, hv, q1, q2, q3, q4⟩ := h.row h2 (fun _ => rfl)
  refine ⟨o, c, hv, q1, fun k y hk => ?_⟩
  obtain ⟨g, hg, hc⟩ := q4 k y hk
  have := hc 0 (by omega)
  rw [Nat.mul_one, Nat.add_zero] at this
  exact ⟨by have := (List.getElem?_eq_some_iff.1 hk).1; omega, g, hg, this⟩

set_option maxRecDepth 100000 in
set_option maxHeartbeats 4000000 in
theorem rfind_any (h : In w0 l w) (h1 : oCellsR sb bm p v ∈ l) (h2 : oTexts v L ∈ l) (hL : L.length < 1073741824) (s : ByteArray) :
    Calls Tryz.prog 25 #[.pointer (some ⟨sb, 0, none⟩), .string s] w fun e w' => e = .returned (.int .i64 (findN L s.data.toList : Nat)) ∧ w = w' := by
  obtain ⟨o, c, rfl, hcl, hrow⟩ := textsAt h h2
  have hx := h.cells h1
  have c2 : w.cell? ⟨sb, 2, none⟩ = some (.slice o L.length c) := by rw [Lib.cell_of_heap hx]; rfl
  have HC := Lib.hid hrow
  clear h h1 h2 hx hrow
  go_enter Tryz.func25, Tryz.ntmps25
  go_wp2
  go_loop [5] (fun i => ∃ k : Nat, k ≤ L.length ∧ i = .int .i64 k ∧ Hid (s.data.toList ∉ L.take k)) (fun i => L.length - (intOf i).toNat)
  case atStart => exact ⟨0, Nat.zero_le _, rfl, by show ¬ _; simp⟩
  case round =>
    obtain ⟨k, hk, rfl, HN⟩ := hrel
    by_cases hlt : k < L.length
    · have hy := List.getElem?_eq_getElem hlt
      obtain ⟨hkc, g, rfl, hcell⟩ := HC.out k _ hy
      obtain ⟨sp, hsp⟩ : ∃ sp : ByteArray, sp = txt L[k] := ⟨_, rfl⟩
      rw [← hsp] at hcell
      have hi1 : (0 : Int) ≤ (k : Int) := by omega
      have hi2 : (k : Int) < (L.length : Int) := by omega
      have hi3 : (k : Int) + 1 < 9223372036854775808 := by omega
      by_cases hpe : sp = s
      · have hq : (sp.toList == s.toList) = true := by rw [str_eq]; simp [hpe]
        have HF : Hid (((findN L s.data.toList : Nat) : Int) = (k : Int) + 1) := by
          show _ = _
          rw [findN_at (k := k) (by rw [hy, ← hpe, hsp, txt_data]) HN.out]; rfl
        clear hy hsp hpe
        go_wp2
        go_ret
        exact ⟨by rw [HF.out]; rfl, rfl⟩
      · have hq : (sp.toList == s.toList) = false := by rw [str_eq]; simp [hpe]
        have HN2 : Hid (s.data.toList ∉ L.take (k + 1)) := fun hm => by
          rw [List.take_succ_eq_append_getElem hlt] at hm
          rcases List.mem_append.1 hm with hm | hm
          · exact HN.out hm
          · simp only [List.mem_singleton] at hm
            exact hpe (by rw [hsp, ← hm, txt_toList])
        clear hy hsp hpe
        go_wp2
        go_round
        case rel => exact ⟨k + 1, hlt, by go_num, HN2⟩
        case measure => simp [intOf]; omega
    · have HF : Hid (findN L s.data.toList = 0) := by
        have := HN.out
        rw [List.take_of_length_le (by omega)] at this
        exact find_not this
      go_wp2
      go_ret
      exact ⟨by rw [HF.out]; rfl, rfl⟩

set_option maxRecDepth 100000 in
set_option maxHeartbeats 4000000 in
theorem rtext_any (h : In w0 l w) (h1 : oCellsR sb bm p v ∈ l) (h2 : oTexts v L ∈ l) (hL : L.length < 1073741824) (i : Int) (hi : -9223372036854775808 ≤ i ∧ i ≤ 9223372036854775807) :
    Calls Tryz.prog 22 #[.pointer (some ⟨sb, 0, none⟩), .int .i64 i] w fun e w' => e = .returned (.tuple #[.string (textAt L i).1, .bool (textAt L i).2]) ∧ w = w' := by
  obtain ⟨o, c, rfl, hcl, hrow⟩ := textsAt h h2
  have hx := h.cells h1
  have c2 : w.cell? ⟨sb, 2, none⟩ = some (.slice o L.length c) := by rw [Lib.cell_of_heap hx]; rfl
  have HC := Lib.hid hrow
  clear h h1 h2 hx hrow
  by_cases hi1 : i < 1
  · rw [text_out (.inl hi1)]
    have d1 : decide (i < 1) = true := by simp; omega
    clear hi1
    go_enter Tryz.func22, Tryz.ntmps22
    go_wp2
    go_ret2
    exact ⟨rfl, rfl⟩
  · have d1 : decide (i < 1) = false := by simp; omega
    by_cases hi2 : (L.length : Int) < i
    · rw [text_out (.inr hi2)]
      have d2 : decide ((L.length : Int) < i) = true := by simp; omega
      clear hi1 hi2
      go_enter Tryz.func22, Tryz.ntmps22
      go_wp2
      go_ret2
      exact ⟨rfl, rfl⟩
    · obtain ⟨k, rfl⟩ : ∃ k : Nat, i = (k : Int) + 1 := ⟨(i - 1).toNat, by omega⟩
      have hlt : k < L.length := by omega
      have hy := List.getElem?_eq_getElem hlt
      obtain ⟨hkc, g, rfl, hcell⟩ := HC.out k _ hy
      rw [text_in hy]
      generalize txt L[k] = sp at hcell ⊢
      have d2 : decide ((L.length : Int) < (k : Int) + 1) = false := by simp; omega
      have e1 : (k : Int) + 1 - 1 = (k : Int) := by omega
      have e2 : IntKind.i64.wrap (k : Int) = (k : Int) := by rw [IntKind.wrap_i64]; omega
      have hi3 : (0 : Int) ≤ (k : Int) := by omega
      have hi4 : (k : Int) < (L.length : Int) := by omega
      clear hy hi1 hi2 hi
      go_enter Tryz.func22, Tryz.ntmps22
      go_wp2
      go_ret2
      exact ⟨rfl, rfl⟩
end

end Go.Proofs.YtchnbnmajagpjaaGreatDoor
