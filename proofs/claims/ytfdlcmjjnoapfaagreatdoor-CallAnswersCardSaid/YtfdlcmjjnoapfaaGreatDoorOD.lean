/-
  What the document's own answer of chapter 10 tells. For texts of at most a thousand bytes. No condition.
-/
import Derived.Deep.QuietTactic
import Derived.Deep.RegionHeld3
import Derived.BigQuiet
import Derived.WalkSpells
import Derived.Test.YtfdlcmjjnoapfaaGreatDoorOF
namespace Go.Proofs.YtfdlcmjjnoapfaaGreatDoor
open Go.RowKit Go.Shelf
attribute [local go_sem] Oper.semAt_some

set_option maxRecDepth 100000 in
set_option maxHeartbeats 4000000 in
theorem ans_subst (s : ByteArray) (hs : s.data.toList = nSubst) (o : Option Addr) (c : Nat) (a b t : BT) (ha : a.length ≤ 1000) (hb : b.length ≤ 1000) (ht : t.length ≤ 1000) (w : World) (hc : CellsW w o c [a, b, t]) :
    Calls Tryz.prog 33 #[.string s, .slice o 3 c] w (AnsPost (ansT nSubst [a, b, t]) w) := by
  obtain ⟨g, f, rfl, hcc, HC⟩ := args3 hc
  have HW := Lib.hid (fun W => rwords_toldT t (by omega) W)
  have HSub := Lib.hid (fun W => ref_subst a b t ha hb ht W)
  have HE : Hid (ansT nSubst [a, b, t] = some (subT a b t)) := rfl
  generalize subT a b t = r at HSub HE
  generalize wordsT t = ws at HW
  generalize hln : ws.length = ln at HW
  clear hln
  have q0 : (s.toList == [115, 117, 98, 115, 116]) = true := by rw [Lib.toList_data, hs]; decide
  have q1 : (s.toList == [112, 97, 116, 115, 117, 98, 115, 116]) = false := by rw [Lib.toList_data, hs]; decide
  have q2 : (s.toList == [102, 105, 110, 100, 115, 116, 114, 105, 110, 103]) = false := by rw [Lib.toList_data, hs]; decide
  have q3 : (s.toList == [115, 111, 114, 116]) = false := by rw [Lib.toList_data, hs]; decide
  have q4 : (s.toList == [119, 111, 114, 100]) = false := by rw [Lib.toList_data, hs]; decide
  have q5 : (s.toList == [119, 111, 114, 100, 108, 105, 115, 116]) = false := by rw [Lib.toList_data, hs]; decide
  have q6 : (s.toList == [119, 111, 114, 100, 115]) = false := by rw [Lib.toList_data, hs]; decide
  have q7 : (s.toList == [102, 105, 114, 115, 116, 119, 111, 114, 100]) = false := by rw [Lib.toList_data, hs]; decide
  have q8 : (s.toList == [108, 97, 115, 116, 119, 111, 114, 100]) = false := by rw [Lib.toList_data, hs]; decide
  have q9 : (s.toList == [106, 111, 105, 110]) = false := by rw [Lib.toList_data, hs]; decide
  clear hc hs
  have hb0 : Below w.heap.size w w := Below.refl _ _
  obtain ⟨x0, x1, x2⟩ := HC.out w hb0
  clear hb0
  go_enter Tryz.func33, Tryz.ntmps33
  go_wp2_with fail
  refine (HW.out w).mono ?_
  rintro e w1 ⟨o1, c1, rfl, hc1, hb1⟩
  clear x0 x1 x2
  obtain ⟨x0, x1, x2⟩ := HC.out w1 hb1
  have HB := Lib.hid hb1
  have HS : Hid (∀ W, Below w1.heap.size w1 W → Calls Tryz.prog 63 #[.string (txt a), .string (txt b), .string (txt t)] W fun e W' => e = .returned (.string (txt r)) ∧ W'.cell? ⟨g, f, none⟩ = some (.string (txt a)) ∧ W'.cell? ⟨g, f + 1, none⟩ = some (.string (txt b)) ∧ W'.cell? ⟨g, f + 2, none⟩ = some (.string (txt t)) ∧ Below w1.heap.size w1 W') := fun W h => by
    refine (HSub.out W).mono ?_
    rintro e W' ⟨rfl, rfl⟩
    have := HC.out W (HB.out.trans (h.mono HB.out.size))
    exact ⟨rfl, this.1, this.2.1, this.2.2, h⟩
  clear HSub hc1 hb1 HW
  have HKD : Hid (∀ W : World, Below w1.heap.size w1 W → Below w1.heap.size w1 W.drew) := fun W h => h.trans ⟨rfl, rfl, rfl, Nat.le_refl _, fun _ _ => rfl⟩
  have HKB : Hid (∀ W : World, Below w1.heap.size w1 W → W.cell? ⟨g, f, none⟩ = some (.string (txt a)) ∧ W.cell? ⟨g, f + 1, none⟩ = some (.string (txt b)) ∧ W.cell? ⟨g, f + 2, none⟩ = some (.string (txt t)) ∧ Below w1.heap.size w1 W) := fun W h => by
    have := HC.out W (HB.out.trans (h.mono HB.out.size))
    exact ⟨this.1, this.2.1, this.2.2, h⟩
  have hbr : Below w1.heap.size w1 w1 := Below.refl _ _
  go_wp2_with fail
  go_region_held3 (fun W => W.cell? ⟨g, f, none⟩ = some (.string (txt a)) ∧ W.cell? ⟨g, f + 1, none⟩ = some (.string (txt b)) ∧ W.cell? ⟨g, f + 2, none⟩ = some (.string (txt t)) ∧ Below w1.heap.size w1 W)
    (first | exact ⟨by assumption, by assumption, by assumption, by assumption⟩ | exact HKB.out _ (HKD.out _ (by assumption)) | (go_split_ands; first | exact ⟨by assumption, by assumption, by assumption, by assumption⟩ | exact HKB.out _ (HKD.out _ (by assumption))))
    (first
      | (go_at_call 63; (with_reducible refine (HS.out _ (by first | assumption | (go_split_ands; assumption))).mono ?_); rintro e w5 ⟨rfl, z0, z1, z2, hb5⟩))
  all_goals
    go_wp2_with fail
    go_ret2
    exact ans_ok HE.out (HB.out.trans (hb5.mono HB.out.size))

set_option maxRecDepth 100000 in
set_option maxHeartbeats 4000000 in
theorem ans_patsubst (s : ByteArray) (hs : s.data.toList = nPatsubst) (o : Option Addr) (c : Nat) (a b t : BT) (ha : a.length ≤ 1000) (hb : b.length ≤ 1000) (ht : t.length ≤ 1000) (w : World) (hc : CellsW w o c [a, b, t]) :
    Calls Tryz.prog 33 #[.string s, .slice o 3 c] w (AnsPost (ansT nPatsubst [a, b, t]) w) := by
  obtain ⟨g, f, rfl, hcc, HC⟩ := args3 hc
  have HW := Lib.hid (fun W => rwords_toldT t (by omega) W)
  have HEach := Lib.hid (fun W => ref_each s a b t ha hb ht W)
  have hsh := short_each nPatsubst ht ha hb
  have HE0 : Hid (ansT nPatsubst [a, b, t] = some (joinT (listT nPatsubst a b t))) := rfl
  have HE : Hid (ansT nPatsubst [a, b, t] = some (joinT (eachT nPatsubst a b (wordsT t)))) := by rw [each_list _ _ _ _ (.inr (.inl rfl))]; exact HE0.out
  rw [hs] at HEach
  unfold RowPost at HEach
  generalize eachT nPatsubst a b (wordsT t) = l at HEach hsh HE
  obtain ⟨r, hr⟩ : ∃ r, r = joinT l := ⟨_, rfl⟩
  rw [← hr] at HE
  have HJ := hsh.told hr
  clear hsh hr HE0
  generalize wordsT t = ws at HW
  generalize hln : ws.length = ln at HW
  clear hln
  have q0 : (s.toList == [115, 117, 98, 115, 116]) = false := by rw [Lib.toList_data, hs]; decide
  have q1 : (s.toList == [112, 97, 116, 115, 117, 98, 115, 116]) = true := by rw [Lib.toList_data, hs]; decide
  have q2 : (s.toList == [102, 105, 110, 100, 115, 116, 114, 105, 110, 103]) = false := by rw [Lib.toList_data, hs]; decide
  have q3 : (s.toList == [115, 111, 114, 116]) = false := by rw [Lib.toList_data, hs]; decide
  have q4 : (s.toList == [119, 111, 114, 100]) = false := by rw [Lib.toList_data, hs]; decide
  have q5 : (s.toList == [119, 111, 114, 100, 108, 105, 115, 116]) = false := by rw [Lib.toList_data, hs]; decide
  have q6 : (s.toList == [119, 111, 114, 100, 115]) = false := by rw [Lib.toList_data, hs]; decide
  have q7 : (s.toList == [102, 105, 114, 115, 116, 119, 111, 114, 100]) = false := by rw [Lib.toList_data, hs]; decide
  have q8 : (s.toList == [108, 97, 115, 116, 119, 111, 114, 100]) = false := by rw [Lib.toList_data, hs]; decide
  have q9 : (s.toList == [106, 111, 105, 110]) = false := by rw [Lib.toList_data, hs]; decide
  clear hc hs
  have hb0 : Below w.heap.size w w := Below.refl _ _
  obtain ⟨x0, x1, x2⟩ := HC.out w hb0
  clear hb0
  go_enter Tryz.func33, Tryz.ntmps33
  go_wp2_with fail
  refine (HW.out w).mono ?_
  rintro e w1 ⟨o1, c1, rfl, hc1, hb1⟩
  clear x0 x1 x2
  obtain ⟨x0, x1, x2⟩ := HC.out w1 hb1
  have HB := Lib.hid hb1
  have HS : Hid (∀ W, Below w1.heap.size w1 W → Calls Tryz.prog 64 #[.string s, .string (txt a), .string (txt b), .string (txt t)] W fun e W' => ∃ o c, e = .returned (.slice o l.length c) ∧ CellsW W' o c l ∧ W'.cell? ⟨g, f, none⟩ = some (.string (txt a)) ∧ W'.cell? ⟨g, f + 1, none⟩ = some (.string (txt b)) ∧ W'.cell? ⟨g, f + 2, none⟩ = some (.string (txt t)) ∧ Below w1.heap.size w1 W') := fun W h => by
    refine (HEach.out W).mono ?_
    rintro e W' ⟨o4, c4, rfl, hc4, hb4⟩
    have h9 := h.trans (hb4.mono h.size)
    have := HC.out W' (HB.out.trans (h9.mono HB.out.size))
    exact ⟨o4, c4, rfl, hc4, this.1, this.2.1, this.2.2, h9⟩
  have HJ9 : Hid (∀ o c W, CellsW W o c l → Below w1.heap.size w1 W → Calls Tryz.prog 25 #[.slice o l.length c] W fun e W' => e = .returned (.string (txt r)) ∧ W'.cell? ⟨g, f, none⟩ = some (.string (txt a)) ∧ W'.cell? ⟨g, f + 1, none⟩ = some (.string (txt b)) ∧ W'.cell? ⟨g, f + 2, none⟩ = some (.string (txt t)) ∧ Below w1.heap.size w1 W') := fun o c W hc h => by
    refine (HJ.out o c W hc).mono ?_
    rintro e W' ⟨rfl, rfl⟩
    have := HC.out W (HB.out.trans (h.mono HB.out.size))
    exact ⟨rfl, this.1, this.2.1, this.2.2, h⟩
  clear HEach HJ hc1 hb1 HW
  generalize l.length = ll at HS HJ9
  have HKD : Hid (∀ W : World, Below w1.heap.size w1 W → Below w1.heap.size w1 W.drew) := fun W h => h.trans ⟨rfl, rfl, rfl, Nat.le_refl _, fun _ _ => rfl⟩
  have HKB : Hid (∀ W : World, Below w1.heap.size w1 W → W.cell? ⟨g, f, none⟩ = some (.string (txt a)) ∧ W.cell? ⟨g, f + 1, none⟩ = some (.string (txt b)) ∧ W.cell? ⟨g, f + 2, none⟩ = some (.string (txt t)) ∧ Below w1.heap.size w1 W) := fun W h => by
    have := HC.out W (HB.out.trans (h.mono HB.out.size))
    exact ⟨this.1, this.2.1, this.2.2, h⟩
  have hbr : Below w1.heap.size w1 w1 := Below.refl _ _
  go_wp2_with fail
  go_region_held3 (fun W => W.cell? ⟨g, f, none⟩ = some (.string (txt a)) ∧ W.cell? ⟨g, f + 1, none⟩ = some (.string (txt b)) ∧ W.cell? ⟨g, f + 2, none⟩ = some (.string (txt t)) ∧ Below w1.heap.size w1 W)
    (first | exact ⟨by assumption, by assumption, by assumption, by assumption⟩ | exact HKB.out _ (HKD.out _ (by assumption)) | (go_split_ands; first | exact ⟨by assumption, by assumption, by assumption, by assumption⟩ | exact HKB.out _ (HKD.out _ (by assumption))))
    (first
      | (go_at_call 64; (with_reducible refine (HS.out _ (by first | assumption | (go_split_ands; assumption))).mono ?_); rintro e w4 ⟨o4, c4, rfl, hc4, z0, z1, z2, hb4⟩)
      | (go_at_call 25; (with_reducible refine (HJ9.out o4 c4 _ (by first | assumption | exact hc4) (by first | assumption | (go_split_ands; assumption))).mono ?_); rintro e w5 ⟨rfl, v0, v1, v2, hb5⟩))
  all_goals
    go_wp2_with fail
    go_ret2
    exact ans_ok HE.out (HB.out.trans (hb5.mono HB.out.size))

set_option maxRecDepth 100000 in
set_option maxHeartbeats 4000000 in
theorem ans_findstring (s : ByteArray) (hs : s.data.toList = nFindstring) (o : Option Addr) (c : Nat) (a t : BT) (ha : a.length ≤ 1000) (ht : t.length ≤ 1000) (w : World) (hc : CellsW w o c [a, t]) :
    Calls Tryz.prog 33 #[.string s, .slice o 2 c] w (AnsPost (ansT nFindstring [a, t]) w) := by
  obtain ⟨g, f, rfl, hcc, HC⟩ := args2 hc
  have HW := Lib.hid (fun W => rwords_toldT t (by omega) W)
  have HF := Lib.hid (fun W => ref_found a t ha ht W)
  have HE : Hid (ansT nFindstring [a, t] = some (if foundB a t = true then a else [])) := rfl
  generalize foundB a t = fb at HF HE
  generalize wordsT t = ws at HW
  generalize hln : ws.length = ln at HW
  clear hln
  have q0 : (s.toList == [115, 117, 98, 115, 116]) = false := by rw [Lib.toList_data, hs]; decide
  have q1 : (s.toList == [112, 97, 116, 115, 117, 98, 115, 116]) = false := by rw [Lib.toList_data, hs]; decide
  have q2 : (s.toList == [102, 105, 110, 100, 115, 116, 114, 105, 110, 103]) = true := by rw [Lib.toList_data, hs]; decide
  have q3 : (s.toList == [115, 111, 114, 116]) = false := by rw [Lib.toList_data, hs]; decide
  have q4 : (s.toList == [119, 111, 114, 100]) = false := by rw [Lib.toList_data, hs]; decide
  have q5 : (s.toList == [119, 111, 114, 100, 108, 105, 115, 116]) = false := by rw [Lib.toList_data, hs]; decide
  have q6 : (s.toList == [119, 111, 114, 100, 115]) = false := by rw [Lib.toList_data, hs]; decide
  have q7 : (s.toList == [102, 105, 114, 115, 116, 119, 111, 114, 100]) = false := by rw [Lib.toList_data, hs]; decide
  have q8 : (s.toList == [108, 97, 115, 116, 119, 111, 114, 100]) = false := by rw [Lib.toList_data, hs]; decide
  have q9 : (s.toList == [106, 111, 105, 110]) = false := by rw [Lib.toList_data, hs]; decide
  clear hc hs
  have hb0 : Below w.heap.size w w := Below.refl _ _
  obtain ⟨x0, x1⟩ := HC.out w hb0
  clear hb0
  go_enter Tryz.func33, Tryz.ntmps33
  go_wp2_with fail
  refine (HW.out w).mono ?_
  rintro e w1 ⟨o1, c1, rfl, hc1, hb1⟩
  clear x0 x1
  obtain ⟨x0, x1⟩ := HC.out w1 hb1
  have HB := Lib.hid hb1
  clear hc1 hb1 HW HC
  go_wp2_with fail
  refine (HF.out _).mono ?_
  rintro e w2 ⟨rfl, rfl⟩
  cases fb with
  | true =>
    go_wp2_with fail
    go_ret2
    exact ans_ok HE.out HB.out
  | false =>
    go_wp2_with fail
    go_ret2
    exact ans_ok HE.out HB.out

set_option maxRecDepth 100000 in
set_option maxHeartbeats 4000000 in
theorem ans_firstword (s : ByteArray) (hs : s.data.toList = nFirstword) (o : Option Addr) (c : Nat) (t : BT) (ht : t.length ≤ 1000) (w : World) (hc : CellsW w o c [t]) :
    Calls Tryz.prog 33 #[.string s, .slice o 1 c] w (AnsPost (ansT nFirstword [t]) w) := by
  obtain ⟨g, f, rfl, hcc, HC⟩ := args1 hc
  have HW := Lib.hid (fun W => rwords_toldT t (by omega) W)
  have HL := Lib.hid (fun W => ref_some 1 1 t (by omega) W)
  unfold RowPost at HL
  have hsh := short_some ht 1 1
  have HE : Hid (ansT nFirstword [t] = some (joinT (someI 1 1 0 (wordsT t)))) := by show _ = _; rw [first_is]; rfl
  generalize someI 1 1 0 (wordsT t) = l at HL hsh HE
  obtain ⟨r, hr⟩ : ∃ r, r = joinT l := ⟨_, rfl⟩
  rw [← hr] at HE
  have HJ := hsh.told hr
  clear hsh hr
  generalize l.length = ll at HL HJ
  generalize wordsT t = ws at HW
  generalize hln : ws.length = ln at HW
  clear hln
  have q0 : (s.toList == [115, 117, 98, 115, 116]) = false := by rw [Lib.toList_data, hs]; decide
  have q1 : (s.toList == [112, 97, 116, 115, 117, 98, 115, 116]) = false := by rw [Lib.toList_data, hs]; decide
  have q2 : (s.toList == [102, 105, 110, 100, 115, 116, 114, 105, 110, 103]) = false := by rw [Lib.toList_data, hs]; decide
  have q3 : (s.toList == [115, 111, 114, 116]) = false := by rw [Lib.toList_data, hs]; decide
  have q4 : (s.toList == [119, 111, 114, 100]) = false := by rw [Lib.toList_data, hs]; decide
  have q5 : (s.toList == [119, 111, 114, 100, 108, 105, 115, 116]) = false := by rw [Lib.toList_data, hs]; decide
  have q6 : (s.toList == [119, 111, 114, 100, 115]) = false := by rw [Lib.toList_data, hs]; decide
  have q7 : (s.toList == [102, 105, 114, 115, 116, 119, 111, 114, 100]) = true := by rw [Lib.toList_data, hs]; decide
  have q8 : (s.toList == [108, 97, 115, 116, 119, 111, 114, 100]) = false := by rw [Lib.toList_data, hs]; decide
  have q9 : (s.toList == [106, 111, 105, 110]) = false := by rw [Lib.toList_data, hs]; decide
  clear hc hs
  have hb0 : Below w.heap.size w w := Below.refl _ _
  have x0 := HC.out w hb0
  clear hb0
  go_enter Tryz.func33, Tryz.ntmps33
  go_wp2_with fail
  refine (HW.out w).mono ?_
  rintro e w1 ⟨o1, c1, rfl, hc1, hb1⟩
  clear x0
  have x0 := HC.out w1 hb1
  have HB := Lib.hid hb1
  clear hc1 hb1 HW HC
  go_wp2_with fail
  refine (HL.out _).mono ?_
  rintro e w2 ⟨o2, c2, rfl, hc2, hb2⟩
  have HB2 := Lib.hid (HB.out.trans (hb2.mono HB.out.size))
  go_wp2_with fail
  refine (HJ.out o2 c2 _ hc2).mono ?_
  rintro e w3 ⟨rfl, rfl⟩
  clear hc2 hb2
  go_wp2_with fail
  go_ret2
  exact ans_ok HE.out HB2.out

set_option maxRecDepth 100000 in
set_option maxHeartbeats 4000000 in
theorem ans_join (s : ByteArray) (hs : s.data.toList = nJoin) (o : Option Addr) (c : Nat) (a t : BT) (ha : a.length ≤ 1000) (ht : t.length ≤ 1000) (w : World) (hc : CellsW w o c [a, t]) :
    Calls Tryz.prog 33 #[.string s, .slice o 2 c] w (AnsPost (ansT nJoin [a, t]) w) := by
  obtain ⟨g, f, rfl, hcc, HC⟩ := args2 hc
  have HW := Lib.hid (fun W => rwords_toldT t (by omega) W)
  have HL := Lib.hid (fun W => ref_zip a t (by omega) (by omega) W)
  unfold RowPost at HL
  have hsh := short_zip ha ht
  have HE : Hid (ansT nJoin [a, t] = some (joinT (zipT (wordsT a) (wordsT t)))) := rfl
  generalize zipT (wordsT a) (wordsT t) = l at HL hsh HE
  obtain ⟨r, hr⟩ : ∃ r, r = joinT l := ⟨_, rfl⟩
  rw [← hr] at HE
  have HJ := hsh.told hr
  clear hsh hr
  generalize l.length = ll at HL HJ
  generalize wordsT t = ws at HW
  generalize hln : ws.length = ln at HW
  clear hln
  have q0 : (s.toList == [115, 117, 98, 115, 116]) = false := by rw [Lib.toList_data, hs]; decide
  have q1 : (s.toList == [112, 97, 116, 115, 117, 98, 115, 116]) = false := by rw [Lib.toList_data, hs]; decide
  have q2 : (s.toList == [102, 105, 110, 100, 115, 116, 114, 105, 110, 103]) = false := by rw [Lib.toList_data, hs]; decide
  have q3 : (s.toList == [115, 111, 114, 116]) = false := by rw [Lib.toList_data, hs]; decide
  have q4 : (s.toList == [119, 111, 114, 100]) = false := by rw [Lib.toList_data, hs]; decide
  have q5 : (s.toList == [119, 111, 114, 100, 108, 105, 115, 116]) = false := by rw [Lib.toList_data, hs]; decide
  have q6 : (s.toList == [119, 111, 114, 100, 115]) = false := by rw [Lib.toList_data, hs]; decide
  have q7 : (s.toList == [102, 105, 114, 115, 116, 119, 111, 114, 100]) = false := by rw [Lib.toList_data, hs]; decide
  have q8 : (s.toList == [108, 97, 115, 116, 119, 111, 114, 100]) = false := by rw [Lib.toList_data, hs]; decide
  have q9 : (s.toList == [106, 111, 105, 110]) = true := by rw [Lib.toList_data, hs]; decide
  clear hc hs
  have hb0 : Below w.heap.size w w := Below.refl _ _
  obtain ⟨x0, x1⟩ := HC.out w hb0
  clear hb0
  go_enter Tryz.func33, Tryz.ntmps33
  go_wp2_with fail
  refine (HW.out w).mono ?_
  rintro e w1 ⟨o1, c1, rfl, hc1, hb1⟩
  clear x0 x1
  obtain ⟨x0, x1⟩ := HC.out w1 hb1
  have HB := Lib.hid hb1
  clear hc1 hb1 HW HC
  go_wp2_with fail
  refine (HL.out _).mono ?_
  rintro e w2 ⟨o2, c2, rfl, hc2, hb2⟩
  have HB2 := Lib.hid (HB.out.trans (hb2.mono HB.out.size))
  go_wp2_with fail
  refine (HJ.out o2 c2 _ hc2).mono ?_
  rintro e w3 ⟨rfl, rfl⟩
  clear hc2 hb2
  go_wp2_with fail
  go_ret2
  exact ans_ok HE.out HB2.out

set_option maxRecDepth 100000 in
set_option maxHeartbeats 4000000 in
theorem ans_lastword (s : ByteArray) (hs : s.data.toList = nLastword) (o : Option Addr) (c : Nat) (t : BT) (ht : t.length ≤ 1000) (w : World) (hc : CellsW w o c [t]) :
    Calls Tryz.prog 33 #[.string s, .slice o 1 c] w (AnsPost (ansT nLastword [t]) w) := by
  obtain ⟨g, f, rfl, hcc, HC⟩ := args1 hc
  have HW := Lib.hid (fun W => rwords_toldT t (by omega) W)
  have HL := Lib.hid (fun W => ref_some ((wordsT t).length : Int) ((wordsT t).length : Int) t (by omega) W)
  unfold RowPost at HL
  have hsh := short_some ht ((wordsT t).length : Int) ((wordsT t).length : Int)
  have HE : Hid (ansT nLastword [t] = some (joinT (someI ((wordsT t).length : Int) ((wordsT t).length : Int) 0 (wordsT t)))) := by show _ = _; rw [last_is]; rfl
  generalize someI ((wordsT t).length : Int) ((wordsT t).length : Int) 0 (wordsT t) = l at HL hsh HE
  obtain ⟨r, hr⟩ : ∃ r, r = joinT l := ⟨_, rfl⟩
  rw [← hr] at HE
  have HJ := hsh.told hr
  clear hsh hr
  generalize l.length = ll at HL HJ
  generalize wordsT t = ws at HW HL
  generalize hln : ws.length = ln at HW HL
  clear hln
  have q0 : (s.toList == [115, 117, 98, 115, 116]) = false := by rw [Lib.toList_data, hs]; decide
  have q1 : (s.toList == [112, 97, 116, 115, 117, 98, 115, 116]) = false := by rw [Lib.toList_data, hs]; decide
  have q2 : (s.toList == [102, 105, 110, 100, 115, 116, 114, 105, 110, 103]) = false := by rw [Lib.toList_data, hs]; decide
  have q3 : (s.toList == [115, 111, 114, 116]) = false := by rw [Lib.toList_data, hs]; decide
  have q4 : (s.toList == [119, 111, 114, 100]) = false := by rw [Lib.toList_data, hs]; decide
  have q5 : (s.toList == [119, 111, 114, 100, 108, 105, 115, 116]) = false := by rw [Lib.toList_data, hs]; decide
  have q6 : (s.toList == [119, 111, 114, 100, 115]) = false := by rw [Lib.toList_data, hs]; decide
  have q7 : (s.toList == [102, 105, 114, 115, 116, 119, 111, 114, 100]) = false := by rw [Lib.toList_data, hs]; decide
  have q8 : (s.toList == [108, 97, 115, 116, 119, 111, 114, 100]) = true := by rw [Lib.toList_data, hs]; decide
  have q9 : (s.toList == [106, 111, 105, 110]) = false := by rw [Lib.toList_data, hs]; decide
  clear hc hs
  have hb0 : Below w.heap.size w w := Below.refl _ _
  have x0 := HC.out w hb0
  clear hb0
  go_enter Tryz.func33, Tryz.ntmps33
  go_wp2_with fail
  refine (HW.out w).mono ?_
  rintro e w1 ⟨o1, c1, rfl, hc1, hb1⟩
  clear x0
  have x0 := HC.out w1 hb1
  have HB := Lib.hid hb1
  clear hc1 hb1 HW HC
  go_wp2_with fail
  refine (HL.out _).mono ?_
  rintro e w2 ⟨o2, c2, rfl, hc2, hb2⟩
  have HB2 := Lib.hid (HB.out.trans (hb2.mono HB.out.size))
  go_wp2_with fail
  refine (HJ.out o2 c2 _ hc2).mono ?_
  rintro e w3 ⟨rfl, rfl⟩
  clear hc2 hb2
  go_wp2_with fail
  go_ret2
  exact ans_ok HE.out HB2.out

set_option maxRecDepth 100000 in
set_option maxHeartbeats 4000000 in
theorem ans_sort (s : ByteArray) (hs : s.data.toList = nSort) (o : Option Addr) (c : Nat) (t : BT) (ht : t.length ≤ 1000) (w : World) (hc : CellsW w o c [t]) :
    Calls Tryz.prog 33 #[.string s, .slice o 1 c] w (AnsPost (ansT nSort [t]) w) := by
  obtain ⟨g, f, rfl, hcc, HC⟩ := args1 hc
  have HW := Lib.hid (fun W => rwords_toldT t (by omega) W)
  have HL : Hid (∀ o c W, CellsW W o c (wordsT t) → Calls Tryz.prog 66 #[.slice o (wordsT t).length c] W fun e W' => ∃ o c, e = .returned (.slice o (sortT (wordsT t)).length c) ∧ CellsW W' o c (sortT (wordsT t)) ∧ Below W.heap.size W W') := fun o c W h => sorted10_any o c _ (wordsT t) rfl (by have := words_few t; omega) W h
  have hsh := short_sort ht
  have HE : Hid (ansT nSort [t] = some (joinT (sortT (wordsT t)))) := rfl
  generalize sortT (wordsT t) = l at HL hsh HE
  obtain ⟨r, hr⟩ : ∃ r, r = joinT l := ⟨_, rfl⟩
  rw [← hr] at HE
  have HJ := hsh.told hr
  clear hsh hr
  generalize l.length = ll at HL HJ
  generalize wordsT t = ws at HW HL
  generalize hln : ws.length = ln at HW HL
  clear hln
  have q0 : (s.toList == [115, 117, 98, 115, 116]) = false := by rw [Lib.toList_data, hs]; decide
  have q1 : (s.toList == [112, 97, 116, 115, 117, 98, 115, 116]) = false := by rw [Lib.toList_data, hs]; decide
  have q2 : (s.toList == [102, 105, 110, 100, 115, 116, 114, 105, 110, 103]) = false := by rw [Lib.toList_data, hs]; decide
  have q3 : (s.toList == [115, 111, 114, 116]) = true := by rw [Lib.toList_data, hs]; decide
  have q4 : (s.toList == [119, 111, 114, 100]) = false := by rw [Lib.toList_data, hs]; decide
  have q5 : (s.toList == [119, 111, 114, 100, 108, 105, 115, 116]) = false := by rw [Lib.toList_data, hs]; decide
  have q6 : (s.toList == [119, 111, 114, 100, 115]) = false := by rw [Lib.toList_data, hs]; decide
  have q7 : (s.toList == [102, 105, 114, 115, 116, 119, 111, 114, 100]) = false := by rw [Lib.toList_data, hs]; decide
  have q8 : (s.toList == [108, 97, 115, 116, 119, 111, 114, 100]) = false := by rw [Lib.toList_data, hs]; decide
  have q9 : (s.toList == [106, 111, 105, 110]) = false := by rw [Lib.toList_data, hs]; decide
  clear hc hs
  have hb0 : Below w.heap.size w w := Below.refl _ _
  have x0 := HC.out w hb0
  clear hb0
  go_enter Tryz.func33, Tryz.ntmps33
  go_wp2_with fail
  refine (HW.out w).mono ?_
  rintro e w1 ⟨o1, c1, rfl, hc1, hb1⟩
  clear x0
  have x0 := HC.out w1 hb1
  have HB := Lib.hid hb1
  clear hb1 HW HC
  go_wp2_with fail
  refine (HL.out o1 c1 _ hc1).mono ?_
  rintro e w2 ⟨o2, c2, rfl, hc2, hb2⟩
  have HB2 := Lib.hid (HB.out.trans (hb2.mono HB.out.size))
  go_wp2_with fail
  refine (HJ.out o2 c2 _ hc2).mono ?_
  rintro e w3 ⟨rfl, rfl⟩
  clear hc2 hb2 hc1
  go_wp2_with fail
  go_ret2
  exact ans_ok HE.out HB2.out

set_option maxRecDepth 100000 in
set_option maxHeartbeats 4000000 in
theorem ans_words (s : ByteArray) (hs : s.data.toList = nWords) (o : Option Addr) (c : Nat) (t : BT) (ht : t.length ≤ 1000) (w : World) (hc : CellsW w o c [t]) :
    Calls Tryz.prog 33 #[.string s, .slice o 1 c] w (AnsPost (ansT nWords [t]) w) := by
  obtain ⟨g, f, rfl, hcc, HC⟩ := args1 hc
  have HW := Lib.hid (fun W => rwords_toldT t (by omega) W)
  have HD := Lib.hid (fun W => decimal10_any (wordsT t).length (by have := words_few t; omega) W)
  have HE : Hid (ansT nWords [t] = some (decOf (wordsT t).length)) := rfl
  generalize decOf (wordsT t).length = r at HD HE
  generalize wordsT t = ws at HW HD
  generalize hln : ws.length = ln at HW HD
  clear hln
  have q0 : (s.toList == [115, 117, 98, 115, 116]) = false := by rw [Lib.toList_data, hs]; decide
  have q1 : (s.toList == [112, 97, 116, 115, 117, 98, 115, 116]) = false := by rw [Lib.toList_data, hs]; decide
  have q2 : (s.toList == [102, 105, 110, 100, 115, 116, 114, 105, 110, 103]) = false := by rw [Lib.toList_data, hs]; decide
  have q3 : (s.toList == [115, 111, 114, 116]) = false := by rw [Lib.toList_data, hs]; decide
  have q4 : (s.toList == [119, 111, 114, 100]) = false := by rw [Lib.toList_data, hs]; decide
  have q5 : (s.toList == [119, 111, 114, 100, 108, 105, 115, 116]) = false := by rw [Lib.toList_data, hs]; decide
  have q6 : (s.toList == [119, 111, 114, 100, 115]) = true := by rw [Lib.toList_data, hs]; decide
  have q7 : (s.toList == [102, 105, 114, 115, 116, 119, 111, 114, 100]) = false := by rw [Lib.toList_data, hs]; decide
  have q8 : (s.toList == [108, 97, 115, 116, 119, 111, 114, 100]) = false := by rw [Lib.toList_data, hs]; decide
  have q9 : (s.toList == [106, 111, 105, 110]) = false := by rw [Lib.toList_data, hs]; decide
  clear hc hs
  have hb0 : Below w.heap.size w w := Below.refl _ _
  have x0 := HC.out w hb0
  clear hb0
  go_enter Tryz.func33, Tryz.ntmps33
  go_wp2_with fail
  refine (HW.out w).mono ?_
  rintro e w1 ⟨o1, c1, rfl, hc1, hb1⟩
  clear x0
  have x0 := HC.out w1 hb1
  have HB := Lib.hid hb1
  clear hc1 hb1 HW HC
  go_wp2_with fail
  refine (HD.out _).mono ?_
  rintro e w2 ⟨rfl, rfl⟩
  go_wp2_with fail
  go_ret2
  exact ans_ok HE.out HB.out

set_option maxRecDepth 100000 in
set_option maxHeartbeats 4000000 in
theorem ans_word (s : ByteArray) (hs : s.data.toList = nWord) (o : Option Addr) (c : Nat) (a t : BT) (ha : a.length ≤ 1000) (ht : t.length ≤ 1000) (w : World) (hc : CellsW w o c [a, t]) :
    Calls Tryz.prog 33 #[.string s, .slice o 2 c] w (AnsPost (ansT nWord [a, t]) w) := by
  obtain ⟨g, f, rfl, hcc, HC⟩ := args2 hc
  have HW := Lib.hid (fun W => rwords_toldT t (by omega) W)
  have HNum := Lib.hid (fun W => ref_number a 1 (by omega) W)
  have HL := Lib.hid (fun W => ref_some (numV (trimOf a)) (numV (trimOf a)) t (by omega) W)
  unfold RowPost at HL
  have hsh := short_some ht (numV (trimOf a)) (numV (trimOf a))
  have HE : Hid (∀ W, Below w.heap.size w W → AnsPost (ansT nWord [a, t]) w (.returned (.tuple #[.string (txt (joinT (someI (numV (trimOf a)) (numV (trimOf a)) 0 (wordsT t)))), .bool (okN a 1)])) W) := fun W hb => by
    have e : ansT nWord [a, t] = wordT a a t := rfl
    rw [e]
    cases hk : okN a 1 with
    | true => exact ans_ok (word_yes hk (okN_less hk)) hb
    | false => exact ans_no (word_no (.inl hk)) hb
  generalize someI (numV (trimOf a)) (numV (trimOf a)) 0 (wordsT t) = l at HL hsh HE
  obtain ⟨r, hr⟩ : ∃ r, r = joinT l := ⟨_, rfl⟩
  rw [← hr] at HE
  have HJ := hsh.told hr
  clear hsh hr
  generalize l.length = ll at HL HJ
  generalize okN a 1 = ok at HNum HE
  generalize numV (trimOf a) = v at HNum HL
  generalize wordsT t = ws at HW
  generalize hln : ws.length = ln at HW
  clear hln
  have q0 : (s.toList == [115, 117, 98, 115, 116]) = false := by rw [Lib.toList_data, hs]; decide
  have q1 : (s.toList == [112, 97, 116, 115, 117, 98, 115, 116]) = false := by rw [Lib.toList_data, hs]; decide
  have q2 : (s.toList == [102, 105, 110, 100, 115, 116, 114, 105, 110, 103]) = false := by rw [Lib.toList_data, hs]; decide
  have q3 : (s.toList == [115, 111, 114, 116]) = false := by rw [Lib.toList_data, hs]; decide
  have q4 : (s.toList == [119, 111, 114, 100]) = true := by rw [Lib.toList_data, hs]; decide
  have q5 : (s.toList == [119, 111, 114, 100, 108, 105, 115, 116]) = false := by rw [Lib.toList_data, hs]; decide
  have q6 : (s.toList == [119, 111, 114, 100, 115]) = false := by rw [Lib.toList_data, hs]; decide
  have q7 : (s.toList == [102, 105, 114, 115, 116, 119, 111, 114, 100]) = false := by rw [Lib.toList_data, hs]; decide
  have q8 : (s.toList == [108, 97, 115, 116, 119, 111, 114, 100]) = false := by rw [Lib.toList_data, hs]; decide
  have q9 : (s.toList == [106, 111, 105, 110]) = false := by rw [Lib.toList_data, hs]; decide
  clear hc hs
  have hb0 : Below w.heap.size w w := Below.refl _ _
  obtain ⟨x0, x1⟩ := HC.out w hb0
  clear hb0
  go_enter Tryz.func33, Tryz.ntmps33
  go_wp2_with fail
  refine (HW.out w).mono ?_
  rintro e w1 ⟨o1, c1, rfl, hc1, hb1⟩
  clear x0 x1
  obtain ⟨x0, x1⟩ := HC.out w1 hb1
  have HB := Lib.hid hb1
  clear hc1 hb1 HW HC
  go_wp2_with fail
  refine (HNum.out _).mono ?_
  rintro e w9 ⟨rfl, rfl⟩
  go_wp2_with fail
  refine (HL.out _).mono ?_
  rintro e w2 ⟨o2, c2, rfl, hc2, hb2⟩
  have HB2 := Lib.hid (HB.out.trans (hb2.mono HB.out.size))
  go_wp2_with fail
  refine (HJ.out o2 c2 _ hc2).mono ?_
  rintro e w3 ⟨rfl, rfl⟩
  clear hc2 hb2
  go_wp2_with fail
  go_ret2
  exact HE.out _ HB2.out

set_option maxRecDepth 100000 in
set_option maxHeartbeats 4000000 in
theorem ans_wordlist (s : ByteArray) (hs : s.data.toList = nWordlist) (o : Option Addr) (c : Nat) (a b t : BT) (ha : a.length ≤ 1000) (hb : b.length ≤ 1000) (ht : t.length ≤ 1000) (w : World) (hc : CellsW w o c [a, b, t]) :
    Calls Tryz.prog 33 #[.string s, .slice o 3 c] w (AnsPost (ansT nWordlist [a, b, t]) w) := by
  obtain ⟨g, f, rfl, hcc, HC⟩ := args3 hc
  have HW := Lib.hid (fun W => rwords_toldT t (by omega) W)
  have HNum := Lib.hid (fun W => ref_number a 1 (by omega) W)
  have HNum2 := Lib.hid (fun W => ref_number b 0 (by omega) W)
  have HL := Lib.hid (fun W => ref_some (numV (trimOf a)) (numV (trimOf b)) t (by omega) W)
  unfold RowPost at HL
  have hsh := short_some ht (numV (trimOf a)) (numV (trimOf b))
  have HE : Hid (∀ W, Below w.heap.size w W → AnsPost (ansT nWordlist [a, b, t]) w (.returned (.tuple #[.string (txt (joinT (someI (numV (trimOf a)) (numV (trimOf b)) 0 (wordsT t)))), .bool (okN a 1 && okN b 0)])) W) := fun W hb => by
    have e : ansT nWordlist [a, b, t] = wordT a b t := rfl
    rw [e]
    cases hk : okN a 1 with
    | false => exact ans_no (word_no (.inl hk)) hb
    | true =>
      cases hk2 : okN b 0 with
      | true => exact ans_ok (word_yes hk hk2) hb
      | false => exact ans_no (word_no (.inr hk2)) hb
  generalize someI (numV (trimOf a)) (numV (trimOf b)) 0 (wordsT t) = l at HL hsh HE
  obtain ⟨r, hr⟩ : ∃ r, r = joinT l := ⟨_, rfl⟩
  rw [← hr] at HE
  have HJ := hsh.told hr
  clear hsh hr
  generalize l.length = ll at HL HJ
  generalize okN a 1 = ok at HNum HE
  generalize okN b 0 = ok2 at HNum2 HE
  generalize numV (trimOf a) = v at HNum HL
  generalize numV (trimOf b) = v2 at HNum2 HL
  generalize wordsT t = ws at HW
  generalize hln : ws.length = ln at HW
  clear hln
  have q0 : (s.toList == [115, 117, 98, 115, 116]) = false := by rw [Lib.toList_data, hs]; decide
  have q1 : (s.toList == [112, 97, 116, 115, 117, 98, 115, 116]) = false := by rw [Lib.toList_data, hs]; decide
  have q2 : (s.toList == [102, 105, 110, 100, 115, 116, 114, 105, 110, 103]) = false := by rw [Lib.toList_data, hs]; decide
  have q3 : (s.toList == [115, 111, 114, 116]) = false := by rw [Lib.toList_data, hs]; decide
  have q4 : (s.toList == [119, 111, 114, 100]) = false := by rw [Lib.toList_data, hs]; decide
  have q5 : (s.toList == [119, 111, 114, 100, 108, 105, 115, 116]) = true := by rw [Lib.toList_data, hs]; decide
  have q6 : (s.toList == [119, 111, 114, 100, 115]) = false := by rw [Lib.toList_data, hs]; decide
  have q7 : (s.toList == [102, 105, 114, 115, 116, 119, 111, 114, 100]) = false := by rw [Lib.toList_data, hs]; decide
  have q8 : (s.toList == [108, 97, 115, 116, 119, 111, 114, 100]) = false := by rw [Lib.toList_data, hs]; decide
  have q9 : (s.toList == [106, 111, 105, 110]) = false := by rw [Lib.toList_data, hs]; decide
  clear hc hs
  have hb0 : Below w.heap.size w w := Below.refl _ _
  obtain ⟨x0, x1, x2⟩ := HC.out w hb0
  clear hb0
  go_enter Tryz.func33, Tryz.ntmps33
  go_wp2_with fail
  refine (HW.out w).mono ?_
  rintro e w1 ⟨o1, c1, rfl, hc1, hb1⟩
  clear x0 x1 x2
  obtain ⟨x0, x1, x2⟩ := HC.out w1 hb1
  have HB := Lib.hid hb1
  clear hc1 hb1 HW HC
  go_wp2_with fail
  refine (HNum.out _).mono ?_
  rintro e w9 ⟨rfl, rfl⟩
  go_wp2_with fail
  refine (HNum2.out _).mono ?_
  rintro e w9 ⟨rfl, rfl⟩
  go_wp2_with fail
  refine (HL.out _).mono ?_
  rintro e w2 ⟨o2, c2, rfl, hc2, hb2⟩
  have HB2 := Lib.hid (HB.out.trans (hb2.mono HB.out.size))
  go_wp2_with fail
  refine (HJ.out o2 c2 _ hc2).mono ?_
  rintro e w3 ⟨rfl, rfl⟩
  clear hc2 hb2
  cases ok with
  | true =>
    go_wp2_with fail
    go_ret2
    exact HE.out _ HB2.out
  | false =>
    go_wp2_with fail
    go_ret2
    exact HE.out _ HB2.out

set_option maxRecDepth 100000 in
set_option maxHeartbeats 4000000 in
theorem ans_each1 (s : ByteArray) (hm : s.data.toList = nStrip ∨ s.data.toList = nFilter ∨ s.data.toList = nFilterOut ∨ s.data.toList = nAddsuffix ∨ s.data.toList = nAddprefix ∨ s.data.toList = nDir ∨ s.data.toList = nNotdir ∨ s.data.toList = nSuffix ∨ s.data.toList = nBasename) (o : Option Addr) (c : Nat) (t : BT) (ht : t.length ≤ 1000) (w : World) (hc : CellsW w o c [t]) :
    Calls Tryz.prog 33 #[.string s, .slice o 1 c] w (AnsPost (ansT s.data.toList [t]) w) := by
  obtain ⟨g, f, rfl, hcc, HC⟩ := args1 hc
  have HW := Lib.hid (fun W => rwords_toldT t (by omega) W)
  have HL := Lib.hid (fun W => ref_each s t [] t ht (by simp) ht W)
  unfold RowPost at HL
  have hsh := short_each (b := []) s.data.toList ht ht (by simp)
  have HE : Hid (ansT s.data.toList [t] = some (joinT (eachT s.data.toList t [] (wordsT t)))) := by
    show _ = _
    rw [each_list _ _ _ _ (by rcases hm with h | h | h | h | h | h | h | h | h <;> simp [h])]
    rcases hm with h | h | h | h | h | h | h | h | h <;> (rw [h]; rfl)
  generalize eachT s.data.toList t [] (wordsT t) = l at HL hsh HE
  obtain ⟨r, hr⟩ : ∃ r, r = joinT l := ⟨_, rfl⟩
  rw [← hr] at HE
  have HJ := hsh.told hr
  clear hsh hr
  generalize l.length = ll at HL HJ
  generalize wordsT t = ws at HW
  generalize hln : ws.length = ln at HW
  clear hln
  have q0 : (s.toList == [115, 117, 98, 115, 116]) = false := by rw [Lib.toList_data]; exact beq_eq_false_iff_ne.2 (by rcases hm with h | h | h | h | h | h | h | h | h <;> (rw [h]; decide))
  have q1 : (s.toList == [112, 97, 116, 115, 117, 98, 115, 116]) = false := by rw [Lib.toList_data]; exact beq_eq_false_iff_ne.2 (by rcases hm with h | h | h | h | h | h | h | h | h <;> (rw [h]; decide))
  have q2 : (s.toList == [102, 105, 110, 100, 115, 116, 114, 105, 110, 103]) = false := by rw [Lib.toList_data]; exact beq_eq_false_iff_ne.2 (by rcases hm with h | h | h | h | h | h | h | h | h <;> (rw [h]; decide))
  have q3 : (s.toList == [115, 111, 114, 116]) = false := by rw [Lib.toList_data]; exact beq_eq_false_iff_ne.2 (by rcases hm with h | h | h | h | h | h | h | h | h <;> (rw [h]; decide))
  have q4 : (s.toList == [119, 111, 114, 100]) = false := by rw [Lib.toList_data]; exact beq_eq_false_iff_ne.2 (by rcases hm with h | h | h | h | h | h | h | h | h <;> (rw [h]; decide))
  have q5 : (s.toList == [119, 111, 114, 100, 108, 105, 115, 116]) = false := by rw [Lib.toList_data]; exact beq_eq_false_iff_ne.2 (by rcases hm with h | h | h | h | h | h | h | h | h <;> (rw [h]; decide))
  have q6 : (s.toList == [119, 111, 114, 100, 115]) = false := by rw [Lib.toList_data]; exact beq_eq_false_iff_ne.2 (by rcases hm with h | h | h | h | h | h | h | h | h <;> (rw [h]; decide))
  have q7 : (s.toList == [102, 105, 114, 115, 116, 119, 111, 114, 100]) = false := by rw [Lib.toList_data]; exact beq_eq_false_iff_ne.2 (by rcases hm with h | h | h | h | h | h | h | h | h <;> (rw [h]; decide))
  have q8 : (s.toList == [108, 97, 115, 116, 119, 111, 114, 100]) = false := by rw [Lib.toList_data]; exact beq_eq_false_iff_ne.2 (by rcases hm with h | h | h | h | h | h | h | h | h <;> (rw [h]; decide))
  have q9 : (s.toList == [106, 111, 105, 110]) = false := by rw [Lib.toList_data]; exact beq_eq_false_iff_ne.2 (by rcases hm with h | h | h | h | h | h | h | h | h <;> (rw [h]; decide))
  clear hc
  have hb0 : Below w.heap.size w w := Below.refl _ _
  have x0 := HC.out w hb0
  clear hb0
  go_enter Tryz.func33, Tryz.ntmps33
  go_wp2_with fail
  refine (HW.out w).mono ?_
  rintro e w1 ⟨o1, c1, rfl, hc1, hb1⟩
  clear x0
  have x0 := HC.out w1 hb1
  have HB := Lib.hid hb1
  clear hc1 hb1 HW HC
  go_wp2_with fail
  refine (HL.out _).mono ?_
  rintro e w2 ⟨o2, c2, rfl, hc2, hb2⟩
  have HB2 := Lib.hid (HB.out.trans (hb2.mono HB.out.size))
  go_wp2_with fail
  refine (HJ.out o2 c2 _ hc2).mono ?_
  rintro e w3 ⟨rfl, rfl⟩
  clear hc2 hb2
  go_wp2_with fail
  go_ret2
  exact ans_ok HE.out HB2.out

set_option maxRecDepth 100000 in
set_option maxHeartbeats 4000000 in
theorem ans_each2 (s : ByteArray) (hm : s.data.toList = nStrip ∨ s.data.toList = nFilter ∨ s.data.toList = nFilterOut ∨ s.data.toList = nAddsuffix ∨ s.data.toList = nAddprefix ∨ s.data.toList = nDir ∨ s.data.toList = nNotdir ∨ s.data.toList = nSuffix ∨ s.data.toList = nBasename) (o : Option Addr) (c : Nat) (a t : BT) (ha : a.length ≤ 1000) (ht : t.length ≤ 1000) (w : World) (hc : CellsW w o c [a, t]) :
    Calls Tryz.prog 33 #[.string s, .slice o 2 c] w (AnsPost (ansT s.data.toList [a, t]) w) := by
  obtain ⟨g, f, rfl, hcc, HC⟩ := args2 hc
  have HW := Lib.hid (fun W => rwords_toldT t (by omega) W)
  have HL := Lib.hid (fun W => ref_each s a [] t ha (by simp) ht W)
  unfold RowPost at HL
  have hsh := short_each (b := []) s.data.toList ht ha (by simp)
  have HE : Hid (ansT s.data.toList [a, t] = some (joinT (eachT s.data.toList a [] (wordsT t)))) := by
    show _ = _
    rw [each_list _ _ _ _ (by rcases hm with h | h | h | h | h | h | h | h | h <;> simp [h])]
    rcases hm with h | h | h | h | h | h | h | h | h <;> (rw [h]; rfl)
  generalize eachT s.data.toList a [] (wordsT t) = l at HL hsh HE
  obtain ⟨r, hr⟩ : ∃ r, r = joinT l := ⟨_, rfl⟩
  rw [← hr] at HE
  have HJ := hsh.told hr
  clear hsh hr
  generalize l.length = ll at HL HJ
  generalize wordsT t = ws at HW
  generalize hln : ws.length = ln at HW
  clear hln
  have q0 : (s.toList == [115, 117, 98, 115, 116]) = false := by rw [Lib.toList_data]; exact beq_eq_false_iff_ne.2 (by rcases hm with h | h | h | h | h | h | h | h | h <;> (rw [h]; decide))
  have q1 : (s.toList == [112, 97, 116, 115, 117, 98, 115, 116]) = false := by rw [Lib.toList_data]; exact beq_eq_false_iff_ne.2 (by rcases hm with h | h | h | h | h | h | h | h | h <;> (rw [h]; decide))
  have q2 : (s.toList == [102, 105, 110, 100, 115, 116, 114, 105, 110, 103]) = false := by rw [Lib.toList_data]; exact beq_eq_false_iff_ne.2 (by rcases hm with h | h | h | h | h | h | h | h | h <;> (rw [h]; decide))
  have q3 : (s.toList == [115, 111, 114, 116]) = false := by rw [Lib.toList_data]; exact beq_eq_false_iff_ne.2 (by rcases hm with h | h | h | h | h | h | h | h | h <;> (rw [h]; decide))
  have q4 : (s.toList == [119, 111, 114, 100]) = false := by rw [Lib.toList_data]; exact beq_eq_false_iff_ne.2 (by rcases hm with h | h | h | h | h | h | h | h | h <;> (rw [h]; decide))
  have q5 : (s.toList == [119, 111, 114, 100, 108, 105, 115, 116]) = false := by rw [Lib.toList_data]; exact beq_eq_false_iff_ne.2 (by rcases hm with h | h | h | h | h | h | h | h | h <;> (rw [h]; decide))
  have q6 : (s.toList == [119, 111, 114, 100, 115]) = false := by rw [Lib.toList_data]; exact beq_eq_false_iff_ne.2 (by rcases hm with h | h | h | h | h | h | h | h | h <;> (rw [h]; decide))
  have q7 : (s.toList == [102, 105, 114, 115, 116, 119, 111, 114, 100]) = false := by rw [Lib.toList_data]; exact beq_eq_false_iff_ne.2 (by rcases hm with h | h | h | h | h | h | h | h | h <;> (rw [h]; decide))
  have q8 : (s.toList == [108, 97, 115, 116, 119, 111, 114, 100]) = false := by rw [Lib.toList_data]; exact beq_eq_false_iff_ne.2 (by rcases hm with h | h | h | h | h | h | h | h | h <;> (rw [h]; decide))
  have q9 : (s.toList == [106, 111, 105, 110]) = false := by rw [Lib.toList_data]; exact beq_eq_false_iff_ne.2 (by rcases hm with h | h | h | h | h | h | h | h | h <;> (rw [h]; decide))
  clear hc
  have hb0 : Below w.heap.size w w := Below.refl _ _
  obtain ⟨x0, x1⟩ := HC.out w hb0
  clear hb0
  go_enter Tryz.func33, Tryz.ntmps33
  go_wp2_with fail
  refine (HW.out w).mono ?_
  rintro e w1 ⟨o1, c1, rfl, hc1, hb1⟩
  clear x0 x1
  obtain ⟨x0, x1⟩ := HC.out w1 hb1
  have HB := Lib.hid hb1
  clear hc1 hb1 HW HC
  go_wp2_with fail
  refine (HL.out _).mono ?_
  rintro e w2 ⟨o2, c2, rfl, hc2, hb2⟩
  have HB2 := Lib.hid (HB.out.trans (hb2.mono HB.out.size))
  go_wp2_with fail
  refine (HJ.out o2 c2 _ hc2).mono ?_
  rintro e w3 ⟨rfl, rfl⟩
  clear hc2 hb2
  go_wp2_with fail
  go_ret2
  exact ans_ok HE.out HB2.out
end Go.Proofs.YtfdlcmjjnoapfaaGreatDoor
