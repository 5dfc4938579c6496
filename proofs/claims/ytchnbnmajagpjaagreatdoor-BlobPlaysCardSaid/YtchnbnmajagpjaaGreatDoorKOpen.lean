/-
  Read, Add and Open, at a tree that stands first.
-/
import Derived.Deep.QuietTactic
import Derived.BigQuiet
import Derived.Test.YtchnbnmajagpjaaGreatDoorJAnew
namespace Go.Proofs.YtchnbnmajagpjaaGreatDoor
open Go.RowKit Go.Shelf Go.Maps

theorem read_text (S : St) (p : BS) : (opRead S p).1 = textOf S.now p := by
  unfold opRead textOf
  cases look S.now p <;> rfl
theorem TreeS.same (w : World) {w1 : World} {Z : Nat → Prop} {room : Int} {l : List Ent} (h : At w1 Z room l w) {w' : World} (hb : Below w.heap.size w w') :
    ∃ Z5, At w' Z5 room l w' ∧ Turned Z w1 w' ∧ (∀ n, Z5 n → Z n) ∧ ∀ n, w.heap.size ≤ n → n < w'.heap.size → ¬ Z5 n := by
  refine ⟨_, h.since hb, h.1.trans ((turned_below hb).wider fun _ h => h.elim), fun n hn => hn.1, fun n h1 h2 h3 => h3.2 ⟨h1, h2⟩⟩

section
variable {w1 : World} {Z : Nat → Prop} {room : Int} {w : World} {l : List Ent} {b n : Nat} {S : St}
set_option maxRecDepth 100000 in
set_option maxHeartbeats 4000000 in
theorem At.jread (h : At w1 Z room ((false, b, S) :: l) w) (p : ByteArray) (hp : p.size ≤ 1048576) (ht : (textOf S.now p.data.toList).length ≤ 1000000) :
    Calls Tryz.prog 54 #[.pointer (some ⟨b, 0, none⟩), .string p] w fun r w' => ∃ o c, r = .returned (.tuple #[.slice o (listsOf (textOf S.now p.data.toList)).length c, .bool (wholeB (textOf S.now p.data.toList))]) ∧
      ReadsFF (fun n => w.heap.size ≤ n) w' (.slice o (listsOf (textOf S.now p.data.toList)).length c) (LLtxt (listsOf (textOf S.now p.data.toList))) ∧ Below w.heap.size w w' := by
  obtain ⟨X, hX⟩ := h.look
  have hR : Calls Tryz.prog 82 #[.pointer (some ⟨b, 0, none⟩), .string p] w fun r w' => (∃ c, r = .returned (.tuple #[.string (txt (textOf S.now p.data.toList)), .int .i64 c])) ∧ Below w.heap.size w w' := by
    refine (read_tree b X p room S w hX hp).mono fun r w' k => ⟨⟨(opRead S p.data.toList).2, ?_⟩, k.2⟩
    rw [k.1]
    rw [read_text]
  have HR := Lib.hid hR
  clear hR hX
  generalize textOf S.now p.data.toList = T at *
  have hS : ∀ W, Below w.heap.size w W → Calls Tryz.prog 83 #[.string (txt T)] W fun r w' => ∃ o c, r = .returned (.tuple #[.slice o (listsOf T).length c, .int .i64 (endI T (scanOf T))]) ∧ ReadsFF (fun n => w.heap.size ≤ n) w' (.slice o (listsOf T).length c) (LLtxt (listsOf T)) ∧ Below w.heap.size w w' := by
    intro W hb
    refine (scan_any (txt T) (by rw [txt_size]; exact ht) W).mono fun r w' k => ?_
    obtain ⟨o, c, k1, k2, k3⟩ := scan_shape_fresh k
    rw [txt_data] at k1 k2
    rw [scan_lists] at k2
    have hl : (scanOf T).length = (listsOf T).length := by unfold listsOf; rw [List.length_map]
    rw [hl] at k1 k2
    have := hb.size
    exact ⟨o, c, k1, k2.wider fun n hn _ => by omega, hb.trans (k3.mono this)⟩
  have HS := Lib.hid hS
  clear hS
  have hw : wholeB T = (endI T (scanOf T) == ((txt T).size : Int)) := by
    unfold wholeB; rw [txt_size, Bool.eq_iff_iff, decide_eq_true_iff, beq_iff_eq]
  rw [hw]
  clear hw
  have hz : (txt T).size ≤ 1000000 := by rw [txt_size]; exact ht
  generalize endI T (scanOf T) = ei at *
  generalize LLtxt (listsOf T) = xss at *
  generalize (listsOf T).length = N at *
  generalize txt T = t at *
  go_enter Tryz.func54, Tryz.ntmps54
  go_wp2_with (first
    | (go_at_call 82; refine HR.out.mono ?_; rintro e w2 ⟨⟨c2, rfl⟩, h2⟩)
    | (go_at_call 83; refine (HS.out _ h2).mono ?_; rintro e w3 ⟨o, c, rfl, h3, h4⟩))
  go_ret2
  exact ⟨o, c, rfl, h3, h4⟩

set_option maxRecDepth 100000 in
set_option maxHeartbeats 4000000 in
theorem At.jadd (h : At w1 Z room ((false, b, S) :: l) w) (hg : Good room n S) (hn : n < 268435400) (p : ByteArray) (hp : p.size ≤ 1048000) (v : Value) (xs : List ByteArray) (hr : ReadsO w w.heap.size v xs) (hm : xs.length ≤ maxLen ∧ ∀ x ∈ xs, x.size ≤ 1000000) :
    Calls Tryz.prog 19 #[.pointer (some ⟨b, 0, none⟩), .string p, v] w fun r w' => r = .returned (.int .i64 (jAdd room S p.data.toList (rawOf xs)).1) ∧ At w1 Z room ((false, b, (jAdd room S p.data.toList (rawOf xs)).2) :: l) w' := by
  obtain ⟨vo, vc, rfl, _⟩ : ∃ o c, v = .slice o xs.length c ∧ True := by
    obtain ⟨o, c, h, _⟩ := hr
    exact ⟨o, c, h, trivial⟩
  have HQ : Hid (Calls Tryz.prog 45 #[.pointer (some ⟨b, 0, none⟩), .string p] w fun e w' => e = .returned (.bool (pathB (besideL p.data.toList))) ∧ At w1 Z room ((false, b, S) :: l) w' ∧ ReadsO w' w'.heap.size (.slice vo xs.length vc) xs) :=
    (isRight_any b p hp w).mono fun _ _ k => ⟨k.1, h.below k.2, hr.below k.2 k.2.size⟩
  have hraw : rawLL [xs] = [rawOf xs] := rfl
  have hpc : putC [rawOf xs] = lineC (rawOf xs) := by
    show (if lineC (rawOf xs) = 0 then putC [] else lineC (rawOf xs)) = _
    split
    · rename_i h0; rw [h0]; rfl
    · rfl
  have HT : Hid (∀ W, At w1 Z room ((false, b, S) :: l) W → ReadsO W W.heap.size (.slice vo xs.length vc) xs → Calls Tryz.prog 46 #[.func (.func 47) #[] #[], .slice (some ⟨W.heap.size, 0, none⟩) 1 1] (W.alloc (.cells #[.slice vo xs.length vc] 39)) fun e w' => e = .returned (.tuple #[.string (togT [rawOf xs]), .int .i64 (lineC (rawOf xs))]) ∧ At w1 Z room ((false, b, S) :: l) w') := by
    intro W h1 h2
    have hb : Below W.heap.size W (W.alloc (.cells #[.slice vo xs.length vc] 39)) := (Below.refl _ _).alloc (Nat.le_refl _) _
    refine (together_any (.slice (some ⟨W.heap.size, 0, none⟩) 1 1) [xs] _ (built_one h2) (by unfold maxLen; simp) (by intro y hy; simp at hy; rw [hy]; exact hm) (mod_few (by simp [rawLL]))).mono fun _ _ k => ?_
    rw [hraw, hpc] at k
    exact ⟨k.1, (h1.below hb).below k.2⟩
  unfold jAdd
  clear h hr
  by_cases hpb : pathB (besideL p.data.toList) = true
  · rw [if_pos hpb]
    rw [hpb] at HQ
    by_cases h0 : lineC (rawOf xs) = 0
    · rw [if_pos h0]
      have ht : togT [rawOf xs] = txt (lineOf (rawOf xs)) := by unfold togT; rw [hpc, if_pos h0, lines_one]
      have hts : (txt (lineOf (rawOf xs))).size ≤ 1048576 := by rw [txt_size]; have := line_bound (fit_lineC h0); omega
      rw [ht, h0] at HT
      have HA : Hid (∀ W, At w1 Z room ((false, b, S) :: l) W → Calls Tryz.prog 48 #[.pointer (some ⟨b, 0, none⟩), .string p, .string (txt (lineOf (rawOf xs)))] W fun r w' => r = .returned (.int .i64 (opA room S p.data.toList (lineOf (rawOf xs))).1) ∧ At w1 Z room ((false, b, (opA room S p.data.toList (lineOf (rawOf xs))).2) :: l) w') := by
        intro W hW
        have := hW.append hg (by omega) p (txt (lineOf (rawOf xs))) (by omega) hts
        rwa [txt_data] at this
      clear ht hts hpb h0 hm hg hpc hraw
      generalize opA room S p.data.toList (lineOf (rawOf xs)) = R at *
      generalize txt (lineOf (rawOf xs)) = t at *
      go_enter Tryz.func19, Tryz.ntmps19
      go_wp2_with (first
        | (go_at_call 45; refine HQ.out.mono ?_; rintro e w2 ⟨rfl, h2, hr2⟩)
        | (go_at_call 46; refine (HT.out _ h2 hr2).mono ?_; rintro e w3 ⟨rfl, h3⟩)
        | (go_at_call 48; refine (HA.out _ h3).mono ?_; rintro e w4 ⟨rfl, h4⟩))
      go_ret
      exact ⟨rfl, h4⟩
    · rw [if_neg h0]
      have e0 : (lineC (rawOf xs) != 0) = true := by simpa using h0
      clear hpb h0 hm hg hpc hraw
      generalize lineC (rawOf xs) = cd at *
      generalize togT [rawOf xs] = t at *
      go_enter Tryz.func19, Tryz.ntmps19
      go_wp2_with (first
        | (go_at_call 45; refine HQ.out.mono ?_; rintro e w2 ⟨rfl, h2, hr2⟩)
        | (go_at_call 46; refine (HT.out _ h2 hr2).mono ?_; rintro e w3 ⟨rfl, h3⟩))
      go_ret
      exact ⟨rfl, h3⟩
  · rw [if_neg hpb]
    have e0 : pathB (besideL p.data.toList) = false := by simpa using hpb
    rw [e0] at HQ
    clear hpb e0 hm hg HT hpc hraw
    go_enter Tryz.func19, Tryz.ntmps19
    go_wp2_with (go_at_call 45; refine HQ.out.mono ?_; rintro e w2 ⟨rfl, h2, hr2⟩)
    go_ret
    exact ⟨rfl, h2⟩

/-- What Open leaves: the records in blocks that no tree has. -/
def OpenPost (w1 : World) (Z : Nat → Prop) (room : Int) (l : List Ent) (k : Bool) (b : Nat) (R : LL × (Int × St)) (r : Ending) (w' : World) : Prop :=
  ∃ o c w5 Z5, r = .returned (.tuple #[.slice o R.1.length c, .int .i64 R.2.1]) ∧ ReadsFF (fun n => ¬ Z5 n ∧ w1.heap.size ≤ n) w5 (.slice o R.1.length c) (LLtxt R.1) ∧ At w5 Z5 room ((k, b, R.2.2) :: l) w' ∧ Turned Z w1 w5 ∧ ∀ n, Z5 n → Z n

set_option maxRecDepth 100000 in
set_option maxHeartbeats 4000000 in
theorem At.jopen (h : At w1 Z room ((false, b, S) :: l) w) (hg : Good room n S) (hn : n < 268435300) (p : ByteArray) (hp : p.size ≤ 1048000) (ht : ∀ q, (textOf S.now q).length ≤ 1000000) :
    Calls Tryz.prog 29 #[.pointer (some ⟨b, 0, none⟩), .string p] w (OpenPost w1 Z room l false b (jOpen room S p.data.toList)) := by
  have HB := Lib.hid (beside_any p hp)
  have hbs : (bes p).size ≤ 1048576 := by rw [bes_size]; omega
  have HQ : Hid (Calls Tryz.prog 45 #[.pointer (some ⟨b, 0, none⟩), .string p] w fun e w' => e = .returned (.bool (pathB (besideL p.data.toList))) ∧ At w1 Z room ((false, b, S) :: l) w') :=
    (isRight_any b p hp w).mono fun _ _ k => ⟨k.1, h.below k.2⟩
  have HX : Hid (∀ W, At w1 Z room ((false, b, S) :: l) W → Calls Tryz.prog 52 #[.pointer (some ⟨b, 0, none⟩), .string (bes p)] W fun r w' => (∃ c, r = .returned (.int .i64 c)) ∧ At w1 Z room ((false, b, (opR S (besideL p.data.toList)).2) :: l) w') := by
    intro W hW
    have := hW.remove hg (by omega) (bes p) hbs
    rw [bes_list] at this
    exact this.mono fun _ _ k => ⟨⟨_, k.1⟩, k.2⟩
  have hg1 := hg.opR (besideL p.data.toList)
  have hT1 : (textOf (opR S (besideL p.data.toList)).2.now p.data.toList).length ≤ 1000000 := by
    rw [opR_now, text_drp_other hg.files.srt (beside_ne _)]; exact ht _
  unfold jOpen
  have h0 := h
  clear h ht
  by_cases hpb : pathB (besideL p.data.toList) = true
  · rw [if_pos hpb]
    rw [hpb] at HQ
    clear hpb hg
    generalize (opR S (besideL p.data.toList)).2 = S1 at *
    have HR : Hid (∀ W, At w1 Z room ((false, b, S1) :: l) W → Calls Tryz.prog 54 #[.pointer (some ⟨b, 0, none⟩), .string p] W fun r w' => ∃ o c Z5, r = .returned (.tuple #[.slice o (listsOf (textOf S1.now p.data.toList)).length c, .bool (wholeB (textOf S1.now p.data.toList))]) ∧
        ReadsFF (fun n => ¬ Z5 n ∧ w1.heap.size ≤ n) w' (.slice o (listsOf (textOf S1.now p.data.toList)).length c) (LLtxt (listsOf (textOf S1.now p.data.toList))) ∧ At w' Z5 room ((false, b, S1) :: l) w' ∧ Turned Z w1 w' ∧ ∀ n, Z5 n → Z n) := by
      intro W hW
      refine (hW.jread p (by omega) hT1).mono fun r w' k => ?_
      obtain ⟨o, c, k1, k2, k3⟩ := k
      obtain ⟨Z5, q1, q2, q3, q4⟩ := TreeS.same W hW k3
      exact ⟨o, c, Z5, k1, k2.wider (fun n hn hlt => ⟨q4 n hn hlt, Nat.le_trans hW.1.size hn⟩), q1, q2, q3⟩
    have HS : Hid (∀ w5 Z5 W, At w5 Z5 room ((false, b, S1) :: l) W → Calls Tryz.prog 26 #[.pointer (some ⟨b, 0, none⟩)] W fun r w' => r = .returned (.tuple #[]) ∧ At w5 Z5 room ((false, b, opS S1) :: l) w') :=
      fun w5 Z5 W hW => hW.sync hg1
    have HA : Hid (∀ w5 Z5 o c, At w5 Z5 room ((false, b, S1) :: l) w5 → ReadsFF (fun n => ¬ Z5 n ∧ w1.heap.size ≤ n) w5 (.slice o (listsOf (textOf S1.now p.data.toList)).length c) (LLtxt (listsOf (textOf S1.now p.data.toList))) →
        Calls Tryz.prog 31 #[.pointer (some ⟨b, 0, none⟩), .string p, .slice o (listsOf (textOf S1.now p.data.toList)).length c] w5 fun r w' => r = .returned (.int .i64 (jAnew room S1 p.data.toList (listsOf (textOf S1.now p.data.toList))).1) ∧ At w5 Z5 room ((false, b, (jAnew room S1 p.data.toList (listsOf (textOf S1.now p.data.toList))).2) :: l) w') := by
      intro w5 Z5 o c h5 h6
      have hc := lists_count (textOf S1.now p.data.toList)
      have := h5.janew hg1 (by omega) p hp _ _ h6.reads (by unfold LLtxt; rw [List.length_map]; unfold maxLen; omega) (fits_ok (lists_fit _)) (by rw [raw_txt]; exact mod_lines (by omega))
      rwa [raw_txt] at this
    have hnil : ∀ W, ReadsFF (fun n => ¬ Z n) W (.slice none 0 0) (LLtxt []) := fun W => ⟨none, 0, rfl, fun i xs hi => by simp [LLtxt] at hi⟩
    clear hT1 hg1
    cases hw : wholeB (textOf S1.now p.data.toList) with
    | true =>
      rw [if_pos rfl]
      rw [hw] at HR
      clear hw HA
      generalize opS S1 = S9 at *
      generalize listsOf (textOf S1.now p.data.toList) = ls at *
      generalize bes p = q at *
      go_enter Tryz.func29, Tryz.ntmps29
      go_wp2_with (first
        | (go_at_call 45; refine HQ.out.mono ?_; rintro e w2 ⟨rfl, h2⟩)
        | (go_at_call 53; refine (HB.out _).mono ?_; rintro e w3 ⟨rfl, rfl⟩)
        | (go_at_call 52; refine (HX.out _ h2).mono ?_; rintro e w4 ⟨⟨c4, rfl⟩, h4⟩)
        | (go_at_call 54; refine (HR.out _ h4).mono ?_; rintro e w5 ⟨o, c, Z5, rfl, h5, h6, h7, h8⟩)
        | (go_at_call 26; refine (HS.out _ _ _ h6).mono ?_; rintro e w9 ⟨rfl, h9⟩))
      go_ret2
      exact ⟨o, c, w5, Z5, rfl, h5, h9, h7, h8⟩
    | false =>
      rw [if_neg (by simp)]
      rw [hw] at HR
      clear hw HS
      generalize listsOf (textOf S1.now p.data.toList) = ls at *
      generalize jAnew room S1 p.data.toList ls = R at *
      obtain ⟨cR, SR⟩ := R
      generalize bes p = q at *
      by_cases h0' : cR = 0
      · subst h0'
        rw [if_pos rfl]
        go_enter Tryz.func29, Tryz.ntmps29
        go_wp2_with (first
          | (go_at_call 45; refine HQ.out.mono ?_; rintro e w2 ⟨rfl, h2⟩)
          | (go_at_call 53; refine (HB.out _).mono ?_; rintro e w3 ⟨rfl, rfl⟩)
          | (go_at_call 52; refine (HX.out _ h2).mono ?_; rintro e w4 ⟨⟨c4, rfl⟩, h4⟩)
          | (go_at_call 54; refine (HR.out _ h4).mono ?_; rintro e w5 ⟨o, c, Z5, rfl, h5, h6, h7, h8⟩)
          | (go_at_call 31; refine (HA.out _ _ _ _ h6 h5).mono ?_; rintro e w9 ⟨rfl, h9⟩))
        go_ret2
        exact ⟨o, c, w5, Z5, rfl, h5, h9, h7, h8⟩
      · have e0 : (cR != 0) = true := by simpa using h0'
        rw [if_neg h0']
        clear h0'
        go_enter Tryz.func29, Tryz.ntmps29
        go_wp2_with (first
          | (go_at_call 45; refine HQ.out.mono ?_; rintro e w2 ⟨rfl, h2⟩)
          | (go_at_call 53; refine (HB.out _).mono ?_; rintro e w3 ⟨rfl, rfl⟩)
          | (go_at_call 52; refine (HX.out _ h2).mono ?_; rintro e w4 ⟨⟨c4, rfl⟩, h4⟩)
          | (go_at_call 54; refine (HR.out _ h4).mono ?_; rintro e w5 ⟨o, c, Z5, rfl, h5, h6, h7, h8⟩)
          | (go_at_call 31; refine (HA.out _ _ _ _ h6 h5).mono ?_; rintro e w9 ⟨rfl, h9⟩))
        go_ret2
        exact ⟨none, 0, w5, Z5, rfl, ⟨none, 0, rfl, fun i xs hi => by simp [LLtxt] at hi⟩, h9, h7, h8⟩
  · rw [if_neg hpb]
    have e0 : pathB (besideL p.data.toList) = false := by simpa using hpb
    rw [e0] at HQ
    clear hpb e0 hg HX hg1 hT1
    go_enter Tryz.func29, Tryz.ntmps29
    go_wp2_with (go_at_call 45; refine HQ.out.mono ?_; rintro e w2 ⟨rfl, h2⟩)
    go_ret2
    exact ⟨none, 0, w1, Z, rfl, ⟨none, 0, rfl, fun i xs hi => by simp [LLtxt] at hi⟩, h2, (turned_below (Below.refl _ w1)).wider fun _ h => h.elim, fun _ h => h⟩
end

end Go.Proofs.YtchnbnmajagpjaaGreatDoor
