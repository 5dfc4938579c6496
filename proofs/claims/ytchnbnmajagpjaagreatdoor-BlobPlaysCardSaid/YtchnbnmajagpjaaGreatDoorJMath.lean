/-
  What a journal's calls come to, in plain words, and the chapter's laws of it: no program. No condition.
-/
import Derived.Test.YtchnbnmajagpjaaGreatDoorCT
import Derived.Test.YtchnbnmajagpjaaGreatDoorBM
namespace Go.Proofs.YtchnbnmajagpjaaGreatDoor
open Go.RowKit

abbrev LL := List (List BS)
def NEW : BS := [46, 110, 101, 119]
def besideL (p : BS) : BS := p ++ NEW
theorem beside_ne (p : BS) : p ≠ besideL p := fun e => by
  have := congrArg List.length e
  simp [besideL, NEW] at this

/-! ### what Put, and Scan, come to -/
open Classical in
noncomputable def lineC (xs : List BS) : Int := if Fit xs then 0 else if xs = [] then 1 else 3
noncomputable def putC : LL → Int
  | [] => 0
  | x :: r => if lineC x = 0 then putC r else lineC x
theorem lineC_fit {xs : List BS} (h : Fit xs) : lineC xs = 0 := by unfold lineC; rw [if_pos h]
theorem fit_lineC {xs : List BS} (h : lineC xs = 0) : Fit xs := by
  unfold lineC at h
  split at h
  · assumption
  · split at h <;> cases h
theorem putC_fit : ∀ {l : LL}, (∀ x ∈ l, Fit x) → putC l = 0
  | [], _ => rfl
  | x :: r, h => by
    show (if lineC x = 0 then putC r else lineC x) = 0
    rw [if_pos (lineC_fit (h x (by simp)))]
    exact putC_fit fun y hy => h y (by simp [hy])
theorem fit_putC : ∀ {l : LL}, putC l = 0 → ∀ x ∈ l, Fit x
  | [], _, _, hx => by cases hx
  | y :: r, h, x, hx => by
    have h' : (if lineC y = 0 then putC r else lineC y) = 0 := h
    by_cases hy : lineC y = 0
    · rw [if_pos hy] at h'
      rcases List.mem_cons.1 hx with rfl | hx
      · exact fit_lineC hy
      · exact fit_putC h' x hx
    · rw [if_neg hy] at h'
      exact absurd h' hy
noncomputable def listsOf (s : BS) : LL := (scanOf s).map (·.1)
noncomputable def wholeB (s : BS) : Bool := decide (endI s (scanOf s) = (s.length : Int))
theorem lists_of (ls : LL) (tail : BS) (hf : ∀ x ∈ ls, Fit x) (ht : ∀ xs r, takeOf tail ≠ .ok xs r) : listsOf (linesOfAll ls ++ tail) = ls := (scan_lines ls tail hf ht).1
theorem whole_of (ls : LL) (tail : BS) (hf : ∀ x ∈ ls, Fit x) (ht : ∀ xs r, takeOf tail ≠ .ok xs r) : wholeB (linesOfAll ls ++ tail) = decide (tail = []) := by
  obtain ⟨h1, h2⟩ := scan_lines ls tail hf ht
  have he : endI (linesOfAll ls ++ tail) (scanOf (linesOfAll ls ++ tail)) = ((linesOfAll ls).length : Int) := by
    generalize scanOf (linesOfAll ls ++ tail) = sc at h1 h2
    unfold endI
    cases hl : sc.getLast? with
    | none =>
      have : sc = [] := List.getLast?_eq_none_iff.1 hl
      subst this
      have h3 : ls = [] := by simpa using h1.symm
      subst h3
      simp [linesOfAll]
    | some x =>
      have := h2 x hl
      simp only [this, List.length_append]
      omega
  unfold wholeB
  rw [he, List.length_append, Bool.eq_iff_iff, decide_eq_true_iff, decide_eq_true_iff, ← List.length_eq_zero_iff]
  omega
theorem no_take_nil : ∀ xs r, takeOf [] ≠ .ok xs r := fun xs r e => by rw [take_none [] (by simp)] at e; cases e
theorem lists_lines (ls : LL) (hf : ∀ x ∈ ls, Fit x) : listsOf (linesOfAll ls) = ls ∧ wholeB (linesOfAll ls) = true := by
  have h1 := lists_of ls [] hf no_take_nil
  have h2 := whole_of ls [] hf no_take_nil
  rw [List.append_nil] at h1 h2
  exact ⟨h1, by rw [h2]; rfl⟩
/-- Each text is lines, and what begins with no line. -/
theorem scan_cut : ∀ (n : Nat) (s : BS), s.length ≤ n → ∃ rest, s = linesOfAll (listsOf s) ++ rest ∧ (∀ xs r, takeOf rest ≠ .ok xs r) ∧ ∀ x ∈ listsOf s, Fit x
  | n, s, hn => by
    have no : (∀ xs r, takeOf s ≠ .ok xs r) → ∃ rest, s = linesOfAll (listsOf s) ++ rest ∧ (∀ xs r, takeOf rest ≠ .ok xs r) ∧ ∀ x ∈ listsOf s, Fit x := fun h => by
      refine ⟨s, ?_, h, ?_⟩
      · unfold listsOf; rw [scan_not h]; rfl
      · unfold listsOf; rw [scan_not h]; simp
    rcases take_kinds (takeOf s) with h | h | h | ⟨xs, r, h⟩
    · exact no (by intro xs r e; rw [h] at e; cases e)
    · exact no (by intro xs r e; rw [h] at e; cases e)
    · exact no (by intro xs r e; rw [h] at e; cases e)
    · have h1 := take_less h
      obtain ⟨h2, h3⟩ := take_ok h
      cases n with
      | zero => omega
      | succ n =>
        obtain ⟨rest, k1, k2, k3⟩ := scan_cut n r (by omega)
        have e : listsOf s = xs :: listsOf r := by unfold listsOf; rw [scan_ok h]; rfl
        refine ⟨rest, ?_, k2, ?_⟩
        · rw [e]
          conv => lhs; rw [h2, k1]
          simp [linesOfAll]
        · rw [e]
          intro x hx
          rcases List.mem_cons.1 hx with rfl | hx
          · exact h3
          · exact k3 x hx
theorem lists_fit (s : BS) : ∀ x ∈ listsOf s, Fit x := (scan_cut _ s (Nat.le_refl _)).choose_spec.2.2
theorem lists_len (s : BS) : (linesOfAll (listsOf s)).length ≤ s.length := by
  obtain ⟨rest, h, _⟩ := scan_cut _ s (Nat.le_refl _)
  have := congrArg List.length h
  rw [List.length_append] at this
  omega
theorem lists_whole {s : BS} (h : wholeB s = true) : linesOfAll (listsOf s) = s := by
  obtain ⟨rest, h1, h2, h3⟩ := scan_cut _ s (Nat.le_refl _)
  have h4 := whole_of (listsOf s) rest h3 h2
  rw [← h1, h] at h4
  have h5 : rest = [] := by simpa using h4.symm
  rw [h5, List.append_nil] at h1
  exact h1.symm
theorem lists_count (s : BS) : (listsOf s).length ≤ s.length := by
  unfold listsOf
  rw [List.length_map]
  exact scan_len _ s (Nat.le_refl _)
theorem line_bound {x : List BS} (h : Fit x) : (lineOf x).length ≤ 13000 := by rw [line_len]; have := h.2.2; omega
theorem lines_bound : ∀ {l : LL}, (∀ x ∈ l, Fit x) → (linesOfAll l).length ≤ 13000 * l.length
  | [], _ => by simp [linesOfAll]
  | x :: r, h => by
    have h1 := line_bound (h x (by simp))
    have h2 := lines_bound fun y hy => h y (List.mem_cons_of_mem _ hy)
    have e : linesOfAll (x :: r) = lineOf x ++ linesOfAll r := rfl
    rw [e, List.length_append, List.length_cons]
    omega
theorem lines_app (a b : LL) : linesOfAll (a ++ b) = linesOfAll a ++ linesOfAll b := by simp [linesOfAll]
theorem lines_one (x : List BS) : linesOfAll [x] = lineOf x := by simp [linesOfAll]

/-! ### the calls -/
noncomputable def jAnew (room : Int) (S : St) (p : BS) (all : LL) : Int × St :=
  if pathB (besideL p) = true then
    if putC all = 0 then
      if (opW room S (besideL p) (linesOfAll all)).1 = 0 then
        if (opN (opW room S (besideL p) (linesOfAll all)).2 (besideL p) p).1 = 0 then (0, opS (opN (opW room S (besideL p) (linesOfAll all)).2 (besideL p) p).2)
        else ((opN (opW room S (besideL p) (linesOfAll all)).2 (besideL p) p).1, (opR (opN (opW room S (besideL p) (linesOfAll all)).2 (besideL p) p).2 (besideL p)).2)
      else ((opW room S (besideL p) (linesOfAll all)).1, (opR (opW room S (besideL p) (linesOfAll all)).2 (besideL p)).2)
    else (putC all, S)
  else (1, S)
noncomputable def jOpen (room : Int) (S : St) (p : BS) : LL × (Int × St) :=
  if pathB (besideL p) = true then
    if wholeB (textOf (opR S (besideL p)).2.now p) = true then (listsOf (textOf (opR S (besideL p)).2.now p), 0, opS (opR S (besideL p)).2)
    else if (jAnew room (opR S (besideL p)).2 p (listsOf (textOf (opR S (besideL p)).2.now p))).1 = 0 then
      (listsOf (textOf (opR S (besideL p)).2.now p), 0, (jAnew room (opR S (besideL p)).2 p (listsOf (textOf (opR S (besideL p)).2.now p))).2)
    else ([], jAnew room (opR S (besideL p)).2 p (listsOf (textOf (opR S (besideL p)).2.now p)))
  else ([], 1, S)
noncomputable def jAdd (room : Int) (S : St) (p : BS) (xs : List BS) : Int × St :=
  if pathB (besideL p) = true then if lineC xs = 0 then opA room S p (lineOf xs) else (lineC xs, S) else (1, S)

theorem Good.jAnew {room : Int} {n : Nat} {S : St} (h : Good room n S) (p : BS) (all : LL) : Good room (n + 3) (jAnew room S p all).2 := by
  unfold Proofs.YtchnbnmajagpjaaGreatDoor.jAnew
  have h1 := h.opW (besideL p) (linesOfAll all)
  have h2 := h1.opN (besideL p) p
  split
  · split
    · split
      · split
        · exact h2.opS.more (by omega)
        · exact h2.opR _
      · exact (h1.opR _).more (by omega)
    · exact h.more (by omega)
  · exact h.more (by omega)
theorem Good.jOpen {room : Int} {n : Nat} {S : St} (h : Good room n S) (p : BS) : Good room (n + 4) (jOpen room S p).2.2 := by
  unfold Proofs.YtchnbnmajagpjaaGreatDoor.jOpen
  have h1 := h.opR (besideL p)
  split
  · split
    · exact h1.opS.more (by omega)
    · split
      · exact (h1.jAnew _ _).more (by omega)
      · exact (h1.jAnew _ _).more (by omega)
  · exact h.more (by omega)
theorem Good.jAdd {room : Int} {n : Nat} {S : St} (h : Good room n S) (p : BS) (xs : List BS) : Good room (n + 1) (jAdd room S p xs).2 := by
  unfold Proofs.YtchnbnmajagpjaaGreatDoor.jAdd
  split
  · split
    · exact h.opA _ _
    · exact h.more (by omega)
  · exact h.more (by omega)

/-! ### files whose names are few, and apart -/
def Keys (Ns : List BS) (l : Fs) : Prop := ∀ y ∈ l, y.1 ∈ Ns
def Calm (Ns : List BS) : Prop := ∀ a ∈ Ns, ∀ b ∈ Ns, way a b = false
section
variable {Ns : List BS} {l : Fs} {p : BS}
theorem Keys.nil : Keys Ns [] := fun y hy => by cases hy
theorem Keys.put (h : Keys Ns l) (hp : p ∈ Ns) (v : FD) : Keys Ns (put (p, v) l) := fun y hy => by
  rcases mem_put.1 hy with rfl | hy
  · exact hp
  · exact h y hy.1
theorem Keys.drp (h : Keys Ns l) (p : BS) : Keys Ns (drp p l) := fun y hy => h y (mem_drp.1 hy).1
theorem Keys.free (h : Keys Ns l) (hC : Calm Ns) (hp : p ∈ Ns) : blocked l p = false := blk_of fun y hy => ⟨hC _ (h y hy) _ hp, hC _ hp _ (h y hy)⟩
theorem text_drp_other (hs : Srt l) {q : BS} (h : q ≠ p) : textOf (drp p l) q = textOf l q := by unfold textOf; rw [look_drp_other hs h]
theorem text_put_same (hs : Srt l) (v : FD) : textOf (put (p, v) l) p = v.1 := by unfold textOf; rw [look_put_same hs]; rfl
theorem text_put_other (hs : Srt l) {q : BS} (h : q ≠ p) (v : FD) : textOf (put (p, v) l) q = textOf l q := by unfold textOf; rw [look_put_other hs h]
theorem keys_sizes : ∀ {Ns : List BS} {l : Fs}, Srt l → Keys Ns l → used l ≤ (Ns.map fun n => (textOf l n).length).sum ∧ l.length ≤ Ns.length
  | [], l, _, h => by
    have : l = [] := List.eq_nil_iff_forall_not_mem.2 fun y hy => by have := h y hy; cases this
    subst this
    simp [used]
  | n :: r, l, hs, h => by
    have hk : Keys r (Proofs.YtchnbnmajagpjaaGreatDoor.drp n l) := fun y hy => by
      obtain ⟨h1, h2⟩ := mem_drp.1 hy
      rcases List.mem_cons.1 (h y h1) with e | e
      · exact absurd e h2
      · exact e
    obtain ⟨k1, k2⟩ := keys_sizes (hs.drp n) hk
    have h1 := used_drp hs n
    have h3 : ∀ ms : List BS, (ms.map fun m => (textOf (Proofs.YtchnbnmajagpjaaGreatDoor.drp n l) m).length).sum ≤ (ms.map fun m => (textOf l m).length).sum := by
      intro ms
      induction ms with
      | nil => simp
      | cons m t ih =>
        simp only [List.map_cons, List.sum_cons]
        have : (textOf (Proofs.YtchnbnmajagpjaaGreatDoor.drp n l) m).length ≤ (textOf l m).length := by
          by_cases e : m = n
          · subst e
            unfold textOf; rw [look_drp_same]; simp
          · rw [text_drp_other hs e]; exact Nat.le_refl _
        omega
    have h4 := h3 r
    refine ⟨by simp only [List.map_cons, List.sum_cons]; omega, ?_⟩
    have h5 : l.length ≤ (Proofs.YtchnbnmajagpjaaGreatDoor.drp n l).length + 1 := by
      cases hl : look l n with
      | none => rw [drp_none hl]; omega
      | some v => have := (drp_perm hs hl).length_eq; rw [List.length_cons] at this; omega
    rw [List.length_cons]; omega
end
theorem opR_now (S : St) (p : BS) : (opR S p).2.now = drp p S.now := by
  unfold opR
  cases hl : look S.now p with
  | none => rw [drp_none hl]; rfl
  | some v => exact after2 _ _ _ _
theorem opN_ok {S : St} {p q : BS} (h : (opN S p q).1 = 0) (hne : p ≠ q) : opN S p q = (0, doSt S 3 p q) ∧ (look S.now p).isSome = true := by
  unfold opN at h ⊢
  by_cases h1 : (look S.now p).isSome = false
  · rw [if_pos h1] at h; cases h
  · by_cases h2 : pathB q = false
    · rw [if_neg h1, if_pos h2] at h; cases h
    · by_cases h4 : blocked (drp p S.now) q = true
      · rw [if_neg h1, if_neg h2, if_neg hne, if_pos h4] at h; cases h
      · exact ⟨by rw [if_neg h1, if_neg h2, if_neg hne, if_neg h4], by cases hx : (look S.now p).isSome with | true => rfl | false => exact absurd hx h1⟩
theorem opA_ok {room : Int} {S : St} {p s : BS} (h : (opA room S p s).1 = 0) : opA room S p s = (0, doSt S 1 p s) := by
  unfold opA at *
  split
  · rfl
  · simp_all
theorem check_zero {room : Int} {now : Fs} {p : BS} {n : Nat} (h1 : pathB p = true) (h2 : n ≤ 16777216) (h3 : blocked now p = false) (h4 : (used now : Int) + (n : Int) ≤ room) (h5 : now.length < 200) : checkC room now p n = 0 := by
  unfold checkC
  rw [if_neg (by simp [h1]), if_neg (by omega), if_neg (by simp [h3]), if_neg (by omega), if_neg (by omega)]

theorem anew_core {room : Int} {n : Nat} {S : St} {Ns : List BS} {p q s : BS} (hne : p ≠ q) (hg : Good room n S) (hN : Keys Ns S.now) (hC : Calm Ns) (hNs : Ns.length < 200) (hp : p ∈ Ns) (hq : q ∈ Ns) (hpp : pathB p = true) (hpq : pathB q = true)
    (hr : (used S.now : Int) + (s.length : Int) ≤ room) (hl : s.length ≤ 16777216) :
    opW room S q s = (0, doSt S 0 q s) ∧ opN (doSt S 0 q s) q p = (0, doSt (doSt S 0 q s) 3 q p) ∧ (doSt (doSt S 0 q s) 3 q p).now = put (p, s, S.clock + 1) (drp q S.now) := by
  have hs := hg.files.srt
  have hc : checkC room S.now q s.length = 0 := check_zero hpq hl (hN.free hC hq) hr (by have := (keys_sizes hs hN).2; omega)
  have eW : opW room S q s = (0, doSt S 0 q s) := by unfold opW; rw [if_pos hc]
  have nW : (doSt S 0 q s).now = put (q, s, S.clock + 1) S.now := after0 _ _ _ _
  have hlq : look (doSt S 0 q s).now q = some (s, S.clock + 1) := by rw [nW]; exact look_put_same hs _ _
  have hbk : blocked (drp q (doSt S 0 q s).now) p = false := by
    rw [nW]; exact ((hN.put hq _).drp q).free hC hp
  have eN : opN (doSt S 0 q s) q p = (0, doSt (doSt S 0 q s) 3 q p) := by unfold opN; rw [hlq, hpp, hbk, if_neg (Ne.symm hne)]; rfl
  have nN : (doSt (doSt S 0 q s) 3 q p).now = put (p, s, S.clock + 1) (drp q (doSt S 0 q s).now) := after3_hitS hlq
  refine ⟨eW, eN, ?_⟩
  have hd : drp q (doSt S 0 q s).now = drp q S.now := by
    rw [nW]
    refine look_srt_ext ((hs.put _).drp q) (hs.drp q) fun r => ?_
    by_cases e : r = q
    · rw [e, look_drp_same, look_drp_same]
    · rw [look_drp_other (hs.put _) e, look_put_other hs e, look_drp_other hs e]
  rw [nN, hd]
theorem jAnew_eq {room : Int} {S S1 S2 : St} {p : BS} {all : LL} (hpq : pathB (besideL p) = true) (hput : putC all = 0) (hW : opW room S (besideL p) (linesOfAll all) = (0, S1)) (hN : opN S1 (besideL p) p = (0, S2)) : jAnew room S p all = (0, opS S2) := by
  unfold jAnew
  rw [if_pos hpq, if_pos hput, hW]
  show (if (0 : Int) = 0 then if (opN S1 (besideL p) p).1 = 0 then ((0 : Int), opS (opN S1 (besideL p) p).2) else _ else _) = _
  rw [if_pos rfl, hN]
  exact if_pos rfl
/-- What an Anew that errs not has done. -/
theorem jAnew_did {room : Int} {S : St} {p : BS} {all : LL} (h : (jAnew room S p all).1 = 0) :
    pathB (besideL p) = true ∧ (∀ x ∈ all, Fit x) ∧ opW room S (besideL p) (linesOfAll all) = (0, doSt S 0 (besideL p) (linesOfAll all)) ∧
    opN (doSt S 0 (besideL p) (linesOfAll all)) (besideL p) p = (0, doSt (doSt S 0 (besideL p) (linesOfAll all)) 3 (besideL p) p) ∧
    (jAnew room S p all).2 = opS (doSt (doSt S 0 (besideL p) (linesOfAll all)) 3 (besideL p) p) := by
  by_cases h1 : pathB (besideL p) = true
  · by_cases h2 : putC all = 0
    · by_cases h3 : (opW room S (besideL p) (linesOfAll all)).1 = 0
      · have h3' := opW_ok h3
        by_cases h4 : (opN (opW room S (besideL p) (linesOfAll all)).2 (besideL p) p).1 = 0
        · rw [h3'] at h4
          have h4' := (opN_ok h4 (Ne.symm (beside_ne p))).1
          refine ⟨h1, fit_putC h2, h3', h4', ?_⟩
          rw [jAnew_eq h1 h2 h3' h4']
        · exfalso
          unfold jAnew at h
          rw [if_pos h1, if_pos h2, if_pos h3, if_neg h4] at h
          exact h4 h
      · exfalso
        unfold jAnew at h
        rw [if_pos h1, if_pos h2, if_neg h3] at h
        exact h3 h
    · exfalso
      unfold jAnew at h
      rw [if_pos h1, if_neg h2] at h
      exact h2 h
  · exfalso
    unfold jAnew at h
    rw [if_neg h1] at h
    cases h

/-- Written anew: all lines, and nothing beside. -/
theorem anew_ok {room : Int} {n : Nat} {S : St} {Ns : List BS} {p : BS} {all : LL} (hg : Good room n S) (hN : Keys Ns S.now) (hC : Calm Ns) (hNs : Ns.length < 200) (hp : p ∈ Ns) (hq : besideL p ∈ Ns) (hpp : pathB p = true) (hpq : pathB (besideL p) = true)
    (hf : ∀ x ∈ all, Fit x) (hr : (used S.now : Int) + ((linesOfAll all).length : Int) ≤ room) (hl : (linesOfAll all).length ≤ 16777216) :
    (jAnew room S p all).1 = 0 ∧ (jAnew room S p all).2.pend = [] ∧ (jAnew room S p all).2.last = (jAnew room S p all).2.now ∧ (jAnew room S p all).2.now = put (p, linesOfAll all, S.clock + 1) (drp (besideL p) S.now) := by
  obtain ⟨eW, eN, nN⟩ := anew_core (beside_ne p) hg hN hC hNs hp hq hpp hpq hr hl
  rw [jAnew_eq hpq (putC_fit hf) eW eN]
  exact ⟨rfl, rfl, rfl, nN⟩

/-- Opened: the records; behind it the file is their lines, and nothing beside. -/
structure Opened (Ns : List BS) (p : BS) (S : St) (r : LL × (Int × St)) : Prop where
  lists : r.1 = listsOf (textOf S.now p)
  code : r.2.1 = 0
  pend : r.2.2.pend = []
  last : r.2.2.last = r.2.2.now
  keys : Keys Ns r.2.2.now
  text : textOf r.2.2.now p = linesOfAll (listsOf (textOf S.now p))
  beside : look r.2.2.now (besideL p) = none
  other : ∀ q, q ≠ p → q ≠ besideL p → textOf r.2.2.now q = textOf S.now q
theorem open_ok {room : Int} {n : Nat} {S : St} {Ns : List BS} {p : BS} (hg : Good room n S) (hN : Keys Ns S.now) (hC : Calm Ns) (hNs : Ns.length < 200) (hp : p ∈ Ns) (hq : besideL p ∈ Ns) (hpp : pathB p = true) (hpq : pathB (besideL p) = true)
    (hr : (used S.now : Int) + ((textOf S.now p).length : Int) ≤ room) (hl : (textOf S.now p).length ≤ 16777216) : Opened Ns p S (jOpen room S p) := by
  have hne := beside_ne p
  have hs := hg.files.srt
  have g1 := hg.opR (besideL p)
  have n1 := opR_now S (besideL p)
  have t1 : textOf (opR S (besideL p)).2.now p = textOf S.now p := by rw [n1]; exact text_drp_other hs hne
  unfold jOpen
  rw [if_pos hpq, t1]
  generalize (opR S (besideL p)).2 = S1 at *
  by_cases hw : wholeB (textOf S.now p) = true
  · rw [if_pos hw]
    refine ⟨rfl, rfl, rfl, rfl, ?_, ?_, ?_, fun q h1 h2 => ?_⟩
    · show Keys Ns S1.now; rw [n1]; exact hN.drp _
    · show textOf S1.now p = _; rw [t1, lists_whole hw]
    · show look S1.now _ = none; rw [n1]; exact look_drp_same _
    · show textOf S1.now q = _; rw [n1]; exact text_drp_other hs h2
  · rw [if_neg hw]
    have hll := lists_len (textOf S.now p)
    have hu := used_drp hs (besideL p)
    have hN1 : Keys Ns S1.now := by rw [n1]; exact hN.drp _
    obtain ⟨a1, a2, a3, a4⟩ := anew_ok (all := listsOf (textOf S.now p)) g1 hN1 hC hNs hp hq hpp hpq (lists_fit _) (by rw [n1]; omega) (by omega)
    rw [if_pos a1]
    have hs1 : Srt S1.now := g1.files.srt
    refine ⟨rfl, rfl, a2, a3, ?_, ?_, ?_, fun q h1 h2 => ?_⟩
    · show Keys Ns (jAnew room S1 p (listsOf (textOf S.now p))).2.now; rw [a4]; exact (hN1.drp _).put hp _
    · show textOf (jAnew room S1 p (listsOf (textOf S.now p))).2.now p = _; rw [a4, text_put_same (hs1.drp _)]
    · show look (jAnew room S1 p (listsOf (textOf S.now p))).2.now _ = none; rw [a4, look_put_other (hs1.drp _) (Ne.symm hne), look_drp_same]
    · show textOf (jAnew room S1 p (listsOf (textOf S.now p))).2.now q = _; rw [a4, text_put_other (hs1.drp _) h1, text_drp_other hs1 h2, n1, text_drp_other hs h2]

/-! ### records added, synced, and a crash -/
def tri (c : Ch) : Nat × (BS × BS) := (c.1, c.2.1, c.2.2.1)
/-- The files are the one of p, and it holds s. -/
structure Logs (p : BS) (l : Fs) (s : BS) : Prop where
  srt : Srt l
  keys : Keys [p] l
  text : textOf l p = s
theorem Logs.nil (p : BS) : Logs p [] [] := ⟨Srt.nil, Keys.nil, rfl⟩
theorem Logs.add {p : BS} {l : Fs} {s a : BS} {c : Ch} (h : Logs p l s) (hc : tri c = (1, p, a)) : Logs p (after l c) (s ++ a) := by
  obtain ⟨k, q, b, t⟩ := c
  simp only [tri, Prod.mk.injEq] at hc
  obtain ⟨rfl, rfl, rfl⟩ := hc
  rw [after1]
  exact ⟨h.srt.put _, h.keys.put (by simp) _, by rw [text_put_same h.srt, h.text]⟩
theorem Logs.adds {p : BS} : ∀ {cs : List Ch} {xs : LL} {l : Fs} {s : BS}, Logs p l s → cs.map tri = xs.map (fun x => (1, p, lineOf x)) → Logs p (cs.foldl after l) (s ++ linesOfAll xs)
  | [], [], l, s, h, _ => by simpa [linesOfAll] using h
  | [], _ :: _, _, _, _, he => by simp at he
  | _ :: _, [], _, _, _, he => by simp at he
  | c :: cs, x :: xs, l, s, h, he => by
    simp only [List.map_cons, List.cons.injEq] at he
    have := Logs.adds (h.add he.1) he.2
    rw [List.append_assoc] at this
    simpa [linesOfAll] using this

/-- The records ins were added to p; the first k of them are synced. -/
structure Kept6 (p : BS) (S : St) (ins : LL) (k : Nat) : Prop where
  le : k ≤ ins.length
  fit : ∀ x ∈ ins, Fit x
  last : Logs p S.last (linesOfAll (ins.take k))
  pend : S.pend.map tri = (ins.drop k).map (fun x => (1, p, lineOf x))
section
variable {p : BS} {S : St} {ins : LL} {k : Nat} {room : Int} {n : Nat}
theorem Kept6.new (p : BS) : Kept6 p (0, [], [], []) [] 0 := ⟨Nat.le_refl _, by simp, Logs.nil p, rfl⟩
theorem Kept6.now (h : Kept6 p S ins k) (hg : Good room n S) : Logs p S.now (linesOfAll ins) := by
  rw [← hg.now]
  have := h.last.adds h.pend
  rwa [← lines_app, List.take_append_drop] at this
theorem Kept6.sync (h : Kept6 p S ins k) (hg : Good room n S) : Kept6 p (opS S) ins ins.length :=
  ⟨Nat.le_refl _, h.fit, by rw [List.take_length]; exact h.now hg, by rw [List.drop_length]; rfl⟩
theorem Kept6.add (h : Kept6 p S ins k) {x : List BS} (hc : (jAdd room S p x).1 = 0) : Kept6 p (jAdd room S p x).2 (ins ++ [x]) k := by
  unfold jAdd at hc ⊢
  split at hc
  · rename_i h1
    split at hc
    · rename_i h2
      rw [if_pos h1, if_pos h2, opA_ok hc]
      have hx := fit_lineC h2
      refine ⟨by rw [List.length_append]; have := h.le; omega, fun y hy => ?_, ?_, ?_⟩
      · rcases List.mem_append.1 hy with hy | hy
        · exact h.fit y hy
        · simp at hy; rw [hy]; exact hx
      · rw [List.take_append_of_le_length h.le]; exact h.last
      · show (S.pend ++ [_]).map tri = _
        rw [List.drop_append_of_le_length h.le, List.map_append, List.map_append, h.pend]
        rfl
    · rename_i h2; exact absurd hc h2
  · cases hc
theorem jAdd_err {x : List BS} (hc : (jAdd room S p x).1 ≠ 0) : (jAdd room S p x).2 = S := by
  unfold jAdd at hc ⊢
  split
  · rename_i h1
    rw [if_pos h1] at hc
    split
    · rename_i h2
      rw [if_pos h2] at hc
      exact opA_err hc
    · rfl
  · rfl
/-- What a crash leaves: the first of the records, and what is no line. -/
theorem Kept6.crash (h : Kept6 p S ins k) (many part : Int) :
    ∃ m tail, Logs p (opC S many part).now (linesOfAll (ins.take m) ++ tail) ∧ m ≤ ins.length ∧ k ≤ m ∧ min (ins.length : Int) ((k : Int) + max 0 many) ≤ (m : Int) ∧ (∀ xs r, takeOf tail ≠ .ok xs r) ∧ tail.length ≤ 13000 := by
  have hpl : S.pend.length = ins.length - k := by have := congrArg List.length h.pend; simpa using this
  obtain ⟨N, hN⟩ : ∃ N, crashN S many = N := ⟨_, rfl⟩
  have hle := h.le
  have hNle : N ≤ ins.length - k ∧ min (ins.length : Int) ((k : Int) + max 0 many) ≤ (k : Int) + N := by
    unfold crashN at hN
    rw [hpl] at hN
    omega
  have hfold : Logs p ((S.pend.take N).foldl after S.last) (linesOfAll (ins.take (k + N))) := by
    have h1 : (S.pend.take N).map tri = ((ins.drop k).take N).map (fun x => (1, p, lineOf x)) := by rw [List.map_take, h.pend, List.map_take]
    have := h.last.adds h1
    rw [← lines_app] at this
    have e : ins.take k ++ (ins.drop k).take N = ins.take (k + N) := by rw [List.take_add]
    rwa [e] at this
  show ∃ m tail, Logs p (crashL S many part) _ ∧ _
  cases hc : S.pend[N]? with
  | none =>
    rw [crash_none hN (.inl hc)]
    exact ⟨k + N, [], by rw [List.append_nil]; exact hfold, by omega, by omega, by omega, no_take_nil, by simp⟩
  | some c =>
    have hlt : N < S.pend.length := (List.getElem?_eq_some_iff.1 hc).1
    have hk : k + N < ins.length := by omega
    have htri : tri c = (1, p, lineOf ins[k + N]) := by
      have h1 := congrArg (fun l => l[N]?) h.pend
      simp only [List.getElem?_map, hc, List.getElem?_drop, List.getElem?_eq_getElem hk, Option.map_some, Option.some.injEq] at h1
      exact h1
    by_cases hp : 1 ≤ part
    · have hkind : c.kind ≤ 1 := by
        have : c.1 = 1 := congrArg Prod.fst htri
        show c.1 ≤ 1
        omega
      rw [crash_torn hN hc hp hkind]
      have htorn : tri (tornC c part) = (1, p, (lineOf ins[k + N]).take part.toNat) := by
        obtain ⟨kk, q, b, t⟩ := c
        simp only [tri, Prod.mk.injEq] at htri
        obtain ⟨rfl, rfl, rfl⟩ := htri
        rfl
      have hlog := hfold.add htorn
      have hfk := h.fit _ (List.getElem_mem hk)
      have hlb := line_bound hfk
      by_cases hwl : (lineOf ins[k + N]).length ≤ part.toNat
      · rw [List.take_of_length_le hwl, ← lines_one, ← lines_app] at hlog
        refine ⟨k + N + 1, [], ?_, by omega, by omega, by omega, no_take_nil, by simp⟩
        rw [List.append_nil, List.take_succ_eq_append_getElem hk]
        exact hlog
      · refine ⟨k + N, _, hlog, by omega, by omega, by omega, fun xs r e => ?_, by rw [List.length_take]; omega⟩
        rw [take_none _ (cut_no_nl _ _ (by omega))] at e
        cases e
    · rw [crash_none hN (.inr ⟨c, hc, fun h => hp h.1⟩)]
      exact ⟨k + N, [], by rw [List.append_nil]; exact hfold, by omega, by omega, by omega, no_take_nil, by simp⟩
end

/-! ### a crash behind what is written beside, and renamed -/
theorem anew_crash {S : St} {p q s : BS} (hne : p ≠ q) (hs : Srt S.now) (hl : S.last = S.now) (hp0 : S.pend = []) (hq0 : look S.now q = none) (many part : Int) :
    (2 ≤ many → textOf (opC (doSt (doSt S 0 q s) 3 q p) many part).now p = s) ∧ (¬ 2 ≤ many → textOf (opC (doSt (doSt S 0 q s) 3 q p) many part).now p = textOf S.now p) ∧
    (textOf (opC (doSt (doSt S 0 q s) 3 q p) many part).now q).length ≤ s.length ∧ (∀ Ns, Keys Ns S.now → p ∈ Ns → q ∈ Ns → Keys Ns (opC (doSt (doSt S 0 q s) 3 q p) many part).now) := by
  obtain ⟨S5, hS5⟩ : ∃ S5, S5 = doSt (doSt S 0 q s) 3 q p := ⟨_, rfl⟩
  rw [← hS5]
  obtain ⟨L, hL⟩ : ∃ L, L = S.now := ⟨_, rfl⟩
  rw [← hL] at hs hq0 hl ⊢
  have p5 : S5.pend = [(0, q, s, S.clock + 1), (3, q, p, S.clock + 1 + 1)] := by
    rw [hS5]; show (S.pend ++ [_]) ++ [_] = _
    rw [hp0]; rfl
  have l5 : S5.last = L := by rw [hS5]; exact hl
  have hlen : S5.pend.length = 2 := by rw [p5]; rfl
  have f1 : (S5.pend.take 1).foldl after S5.last = put (q, s, S.clock + 1) L := by rw [p5, l5]; exact after0 _ _ _ _
  have hl1 : look (put (q, s, S.clock + 1) L) q = some (s, S.clock + 1) := look_put_same hs _ _
  have f2 : (S5.pend.take 2).foldl after S5.last = put (p, s, S.clock + 1) (drp q (put (q, s, S.clock + 1) L)) := by
    have : (S5.pend.take 2).foldl after S5.last = after ((S5.pend.take 1).foldl after S5.last) (3, q, p, S.clock + 1 + 1) := by rw [p5]; rfl
    rw [this, f1]; exact after3_hitS hl1
  have hs1 : Srt (put (q, s, S.clock + 1) L) := hs.put _
  have tq : textOf L q = [] := by unfold textOf; rw [hq0]; rfl
  show (2 ≤ many → textOf (crashL S5 many part) p = s) ∧ (¬ 2 ≤ many → textOf (crashL S5 many part) p = textOf L p) ∧ (textOf (crashL S5 many part) q).length ≤ s.length ∧ (∀ Ns, Keys Ns L → p ∈ Ns → q ∈ Ns → Keys Ns (crashL S5 many part))
  by_cases hm : 2 ≤ many
  · have hN : crashN S5 many = 2 := by unfold crashN; rw [hlen]; omega
    have hc : crashL S5 many part = put (p, s, S.clock + 1) (drp q (put (q, s, S.clock + 1) L)) := by
      rw [← f2]; exact crash_none hN (.inl (by rw [p5]; rfl))
    rw [hc]
    refine ⟨fun _ => text_put_same (hs1.drp q) _, fun h => absurd hm h, ?_, fun Ns h1 h2 h3 => ((h1.put h3 _).drp q).put h2 _⟩
    rw [text_put_other (hs1.drp q) (Ne.symm hne)]
    unfold textOf; rw [look_drp_same]; simp
  · by_cases h1 : many = 1
    · have hN : crashN S5 many = 1 := by unfold crashN; rw [hlen]; omega
      have hc : crashL S5 many part = put (q, s, S.clock + 1) L := by
        rw [← f1]; exact crash_none hN (.inr ⟨_, by rw [p5]; rfl, fun h => absurd h.2 (show ¬ (3 : Nat) ≤ 1 by decide)⟩)
      rw [hc]
      exact ⟨fun h => absurd h hm, fun _ => text_put_other hs hne _, by rw [text_put_same hs]; exact Nat.le_refl _, fun Ns h1 h2 h3 => h1.put h3 _⟩
    · have hN : crashN S5 many = 0 := by unfold crashN; rw [hlen]; omega
      by_cases hp : 1 ≤ part
      · have hc : crashL S5 many part = put (q, s.take part.toNat, S.clock + 1) L := by
          rw [crash_torn hN (by rw [p5]; rfl) hp (show (0 : Nat) ≤ 1 by decide)]
          show after (([] : List Ch).foldl after S5.last) (0, q, s.take part.toNat, S.clock + 1) = _
          rw [after0]
          show put _ S5.last = _
          rw [l5]
        rw [hc]
        exact ⟨fun h => absurd h hm, fun _ => text_put_other hs hne _, by rw [text_put_same hs, List.length_take]; omega, fun Ns h1 h2 h3 => h1.put h3 _⟩
      · have hc : crashL S5 many part = L := by
          rw [crash_none hN (.inr ⟨_, by rw [p5]; rfl, fun h => hp h.1⟩)]
          show S5.last = _
          exact l5
        rw [hc]
        exact ⟨fun h => absurd h hm, fun _ => rfl, by rw [tq]; simp, fun Ns h1 h2 h3 => h1⟩

end Go.Proofs.YtchnbnmajagpjaaGreatDoor
