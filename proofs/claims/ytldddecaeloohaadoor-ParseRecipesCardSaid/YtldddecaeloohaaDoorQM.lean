/-
  How the program's Cut goes: one byte at a time, what is open kept as a row; and that blanks at a text's ends change nothing but themselves. No program, no world. No condition.
-/
import Derived.Test.YtldddecaeloohaaDoorPL
namespace Go.Proofs.YtldddecaeloohaaDoor

theorem opens_two (c d : UInt8) (r : BS) : opens (c :: d :: r) = if c = 36 then (if d = 40 then some 41 else if d = 123 then some 125 else none) else none := rfl
theorem opens_by (l : BS) : (([36, 40] : BS).isPrefixOf l = true ∧ opens l = some 41) ∨ (([36, 40] : BS).isPrefixOf l = false ∧ ([36, 123] : BS).isPrefixOf l = true ∧ opens l = some 125) ∨
    (([36, 40] : BS).isPrefixOf l = false ∧ ([36, 123] : BS).isPrefixOf l = false ∧ opens l = none) := by
  match l with
  | [] => exact .inr (.inr ⟨rfl, rfl, rfl⟩)
  | [c] =>
    refine .inr (.inr ⟨?_, ?_, rfl⟩) <;> simp [List.isPrefixOf]
  | c :: d :: r =>
    rw [opens_two]
    by_cases hc : c = 36
    · subst hc
      by_cases h1 : d = 40
      · subst h1; exact .inl ⟨by simp [List.isPrefixOf], rfl⟩
      by_cases h2 : d = 123
      · subst h2; exact .inr (.inl ⟨by simp [List.isPrefixOf], by simp [List.isPrefixOf], rfl⟩)
      have e1 : (40 == d) = false := by simpa using fun e : 40 = d => h1 e.symm
      have e2 : (123 == d) = false := by simpa using fun e : 123 = d => h2 e.symm
      exact .inr (.inr ⟨by simp [List.isPrefixOf, e1], by simp [List.isPrefixOf, e2], by rw [if_pos rfl, if_neg h1, if_neg h2]⟩)
    · have e0 : (36 == c) = false := by simpa using fun e : 36 = c => hc e.symm
      exact .inr (.inr ⟨by simp [List.isPrefixOf, e0], by simp [List.isPrefixOf, e0], by rw [if_neg hc]⟩)
theorem opens_none {d : UInt8} {r : BS} (h : d ≠ 36) : opens (d :: r) = none := by
  cases r with
  | nil => rfl
  | cons e r => rw [opens_two, if_neg h]
/-- An opening, a byte at a time: its second byte is inside. -/
theorem cutW_begin {signs : List BS} {st : List UInt8} {c q : UInt8} {r : BS} (h : opens (c :: r) = some q) : cutW signs st (c :: r) = Cut3.put c (cutW signs (q :: st) r) := by
  cases r with
  | nil => cases h
  | cons d r =>
    rw [cutW_open h]
    have h' := h
    rw [opens_two] at h'
    split at h'
    · split at h'
      · rename_i h1 h2
        cases h'
        rw [cutW_in (opens_none (by rw [h2]; decide)) (by rw [h2]; simp) (by simp)]
      · split at h'
        · rename_i h1 h2
          cases h'
          rw [cutW_in (opens_none (by rw [h2]; decide)) (by rw [h2]; simp) (by simp)]
        · cases h'
    · cases h'
/-- What the loop keeps: i bytes are behind, st is open. -/
def CutS (sg : List BS) (l : BS) (st : List UInt8) (i : Nat) : Prop :=
  cutOf sg l = (l.take i ++ (cutW sg st (l.drop i)).1, (cutW sg st (l.drop i)).2.1, (cutW sg st (l.drop i)).2.2)
section
variable {sg : List BS} {l : BS} {st : List UInt8} {i : Nat}
theorem CutS.start (sg : List BS) (l : BS) : CutS sg l [] 0 := by
  unfold CutS cutOf
  simp
theorem CutS.next (h : CutS sg l st i) {st' : List UInt8} (hi : i < l.length) (he : cutW sg st (l.drop i) = Cut3.put l[i] (cutW sg st' (l.drop (i + 1)))) : CutS sg l st' (i + 1) := by
  unfold CutS at h ⊢
  rw [h, he]
  have e4 : ∀ K : BS, l.take (i + 1) ++ K = l.take i ++ l[i] :: K := fun K => by rw [List.take_succ_eq_append_getElem hi, List.append_assoc]; rfl
  rw [e4]; rfl
theorem CutS.begin (h : CutS sg l st i) (hi : i < l.length) {q : UInt8} (ho : opens (l.drop i) = some q) : CutS sg l (q :: st) (i + 1) := by
  refine h.next hi ?_
  rw [List.drop_eq_getElem_cons hi] at ho ⊢
  exact cutW_begin ho
theorem CutS.close {b : UInt8} (h : CutS sg l (b :: st) i) (hi : i < l.length) (ho : opens (l.drop i) = none) (hb : l[i] = b) : CutS sg l st (i + 1) := by
  refine h.next hi ?_
  rw [List.drop_eq_getElem_cons hi] at ho ⊢
  exact cutW_close ho (by rw [hb]; rfl)
theorem CutS.inside {b : UInt8} (h : CutS sg l (b :: st) i) (hi : i < l.length) (ho : opens (l.drop i) = none) (hb : l[i] ≠ b) : CutS sg l (b :: st) (i + 1) := by
  refine h.next hi ?_
  rw [List.drop_eq_getElem_cons hi] at ho ⊢
  exact cutW_in ho (by simpa using fun e : b = l[i] => hb e.symm) (by simp)
theorem CutS.outside (h : CutS sg l [] i) (hi : i < l.length) (ho : opens (l.drop i) = none) (hs : signAt sg (l.drop i) = none) : CutS sg l [] (i + 1) := by
  refine h.next hi ?_
  rw [List.drop_eq_getElem_cons hi] at ho hs ⊢
  exact cutW_out ho hs
theorem CutS.hit {x : BS} (h : CutS sg l [] i) (hi : i < l.length) (ho : opens (l.drop i) = none) (hs : signAt sg (l.drop i) = some x) : cutOf sg l = (l.take i, x, l.drop (i + x.length)) := by
  unfold CutS at h
  rw [List.drop_eq_getElem_cons hi] at ho hs
  rw [h, List.drop_eq_getElem_cons hi, cutW_sign ho hs, List.append_nil, ← List.drop_eq_getElem_cons hi, List.drop_drop]
theorem CutS.done (h : CutS sg l st i) (hi : l.length ≤ i) : cutOf sg l = (l, [], []) := by
  unfold CutS at h
  rw [h, List.drop_eq_nil_of_le hi, List.take_of_length_le hi, cutW_nil, List.append_nil]
end

/-! ### blanks at the ends -/
theorem cutW_lead {signs : List BS} (hs : ∀ x ∈ signs, x.head? ≠ some 32 ∧ x.head? ≠ some 9) (u v : BS) (hu : ∀ c ∈ u, blankB c = true) : cutW signs [] (u ++ v) = (u ++ (cutW signs [] v).1, (cutW signs [] v).2.1, (cutW signs [] v).2.2) :=
  cutW_clean u v fun c hc => by
    have := blankB_is.1 (hu c hc)
    rcases this with rfl | rfl
    · exact ⟨by decide, fun x hx => (hs x hx).1⟩
    · exact ⟨by decide, fun x hx => (hs x hx).2⟩
/-- The signs have no blank in them. -/
def NoBl (signs : List BS) : Prop := ∀ x ∈ signs, ∀ c ∈ x, blankB c = false
theorem NoBl.head {signs : List BS} (h : NoBl signs) : ∀ x ∈ signs, x.head? ≠ some 32 ∧ x.head? ≠ some 9 := by
  intro x hx
  cases x with
  | nil => simp
  | cons c r =>
    have hc := h _ hx c (by simp)
    refine ⟨fun e => ?_, fun e => ?_⟩
    · cases e; exact absurd hc (by decide)
    · cases e; exact absurd hc (by decide)
theorem prefix_blank {x s t : BS} (hx : ∀ c ∈ x, blankB c = false) (ht : ∀ c ∈ t, blankB c = true) : x.isPrefixOf (s ++ t) = x.isPrefixOf s := by
  induction x generalizing s with
  | nil => simp [List.isPrefixOf]
  | cons c r ih =>
    cases s with
    | nil =>
      cases t with
      | nil => rfl
      | cons d t =>
        have h1 := hx c (by simp)
        have h2 := ht d (by simp)
        have : (c == d) = false := by
          rw [beq_eq_false_iff_ne]; rintro rfl; rw [h1] at h2; cases h2
        simp [List.isPrefixOf, this]
    | cons d s =>
      simp only [List.cons_append, List.isPrefixOf]
      rw [ih (fun c hc => hx c (by simp [hc]))]
theorem sign_blank {signs : List BS} (h : NoBl signs) {s t : BS} (ht : ∀ c ∈ t, blankB c = true) : signAt signs (s ++ t) = signAt signs s := by
  unfold signAt
  induction signs with
  | nil => rfl
  | cons x r ih =>
    rw [List.find?_cons, List.find?_cons, prefix_blank (h x (by simp)) ht, ih fun y hy => h y (by simp [hy])]
theorem opens_blank {s t : BS} (ht : ∀ c ∈ t, blankB c = true) (hne : s ≠ []) : opens (s ++ t) = opens s := by
  match s, hne with
  | [c], _ =>
    cases t with
    | nil => rfl
    | cons d t =>
      have h2 := blankB_is.1 (ht d (by simp))
      show opens (c :: d :: t) = none
      rw [opens_two]
      rcases h2 with rfl | rfl <;> (split <;> simp)
  | c :: d :: r, _ => rfl
/-- Blanks behind a text: the same cut, and they are behind it. -/
def Trail (k k' : Cut3) (t : BS) : Prop := k'.2.1 = k.2.1 ∧ (k.2.1 ≠ [] → k'.1 = k.1 ∧ k'.2.2 = k.2.2 ++ t)
theorem Trail.put {k k' : Cut3} {t : BS} (c : UInt8) (h : Trail k k' t) : Trail (Cut3.put c k) (Cut3.put c k') t :=
  ⟨h.1, fun hn => ⟨by show c :: k'.1 = c :: k.1; rw [(h.2 hn).1], (h.2 hn).2⟩⟩
theorem sign_lead {signs : List BS} (h : NoBl signs) {c : UInt8} {r : BS} (hc : blankB c = true) : signAt signs (c :: r) = none := by
  unfold signAt
  rw [List.find?_eq_none]
  intro x hx hp
  cases x with
  | nil => simp at hp
  | cons d y =>
    have h1 := h _ hx d (by simp)
    simp only [Bool.and_eq_true, List.isPrefixOf, beq_iff_eq] at hp
    obtain ⟨_, rfl, _⟩ := hp
    rw [h1] at hc; cases hc
theorem blank_ne {c : UInt8} (h : blankB c = true) : c ≠ 36 := by rintro rfl; exact absurd h (by decide)
theorem cutW_blanks {signs : List BS} (h : NoBl signs) : ∀ (t : BS) (st : List UInt8), (∀ c ∈ t, blankB c = true) → (cutW signs st t).2.1 = []
  | [], st, _ => by rw [cutW_nil]
  | c :: r, st, ht => by
    have hc := ht c (by simp)
    have ho : opens (c :: r) = none := opens_none (blank_ne hc)
    have hr : ∀ d ∈ r, blankB d = true := fun d hd => ht d (by simp [hd])
    by_cases h1 : st.head? = some c
    · rw [cutW_close ho h1]; exact cutW_blanks h r st.tail hr
    · by_cases h2 : st = []
      · subst h2
        rw [cutW_out ho (sign_lead h hc)]; exact cutW_blanks h r [] hr
      · rw [cutW_in ho h1 h2]; exact cutW_blanks h r st hr
theorem cutW_trail {signs : List BS} (h : NoBl signs) {t : BS} (ht : ∀ c ∈ t, blankB c = true) : ∀ (s : BS) (st : List UInt8), Trail (cutW signs st s) (cutW signs st (s ++ t)) t
  | [], st => by
    rw [cutW_nil, List.nil_append]
    exact ⟨cutW_blanks h t st ht, fun hn => absurd rfl hn⟩
  | c :: r, st => by
    have he : opens (c :: (r ++ t)) = opens (c :: r) := opens_blank (s := c :: r) ht (by simp)
    show Trail _ (cutW signs st (c :: (r ++ t))) t
    cases ho : opens (c :: r) with
    | some q =>
      rw [ho] at he
      rw [cutW_begin ho, cutW_begin he]
      exact (cutW_trail h ht r (q :: st)).put c
    | none =>
      rw [ho] at he
      by_cases h1 : st.head? = some c
      · rw [cutW_close ho h1, cutW_close he h1]; exact (cutW_trail h ht r st.tail).put c
      · by_cases h2 : st = []
        · subst h2
          have hsg : signAt signs (c :: (r ++ t)) = signAt signs (c :: r) := sign_blank h (s := c :: r) ht
          cases hs : signAt signs (c :: r) with
          | none =>
            rw [hs] at hsg
            rw [cutW_out ho hs, cutW_out he hsg]; exact (cutW_trail h ht r []).put c
          | some x =>
            rw [hs] at hsg
            rw [cutW_sign ho hs, cutW_sign he hsg]
            refine ⟨rfl, fun _ => ⟨rfl, ?_⟩⟩
            obtain ⟨_, _, hx⟩ := sign_at hs
            have hl : x.length ≤ (c :: r).length := by
              have := congrArg List.length hx
              rw [List.length_append] at this; omega
            show (c :: r ++ t).drop x.length = (c :: r).drop x.length ++ t
            rw [List.drop_append_of_le_length hl]
        · rw [cutW_in ho h1 h2, cutW_in he h1 h2]; exact (cutW_trail h ht r st).put c
theorem cut_trail {signs : List BS} (h : NoBl signs) {t : BS} (ht : ∀ c ∈ t, blankB c = true) (s : BS) : Trail (cutOf signs s) (cutOf signs (s ++ t)) t := cutW_trail h ht s []
theorem drop_blanks {u : BS} (hu : ∀ c ∈ u, blankB c = true) (a : BS) : (u ++ a).dropWhile blankB = a.dropWhile blankB := by
  induction u with
  | nil => rfl
  | cons c r ih =>
    rw [List.cons_append, List.dropWhile_cons_of_pos (hu c (by simp))]
    exact ih fun d hd => hu d (by simp [hd])
theorem trim_lead {u : BS} (hu : ∀ c ∈ u, blankB c = true) (a : BS) : trimOf (u ++ a) = trimOf a := by
  unfold trimOf cutL
  rw [drop_blanks hu]
theorem trim_trail {t : BS} (ht : ∀ c ∈ t, blankB c = true) (a : BS) : trimOf (a ++ t) = trimOf a := by
  unfold trimOf
  rw [← cut_swap, ← cut_swap]
  congr 1
  unfold cutR
  rw [List.reverse_append, drop_blanks (fun c hc => ht c (List.mem_reverse.1 hc))]
theorem take_blanks : ∀ (l : BS), ∀ c ∈ l.takeWhile blankB, blankB c = true
  | [], _, h => by simp at h
  | d :: r, c, h => by
    by_cases hd : blankB d = true
    · rw [List.takeWhile_cons_of_pos hd] at h
      rcases List.mem_cons.1 h with rfl | h
      · exact hd
      · exact take_blanks r c h
    · rw [List.takeWhile_cons_of_neg hd] at h; cases h
theorem trim_parts (l : BS) : ∃ u t, (∀ c ∈ u, blankB c = true) ∧ (∀ c ∈ t, blankB c = true) ∧ l = u ++ (trimOf l ++ t) := by
  refine ⟨l.takeWhile blankB, ((cutL l).reverse.takeWhile blankB).reverse, take_blanks l, fun c hc => take_blanks _ c (List.mem_reverse.1 hc), ?_⟩
  have h2 : cutL l = trimOf l ++ ((cutL l).reverse.takeWhile blankB).reverse := by
    unfold trimOf cutR
    rw [← List.reverse_append, List.takeWhile_append_dropWhile, List.reverse_reverse]
  rw [← h2]
  exact (List.takeWhile_append_dropWhile (p := blankB) (l := l)).symm
/-- The cut of a text, and of the text without the blanks at its ends. -/
theorem cut_trim {signs : List BS} (h : NoBl signs) (s : BS) : (cutOf signs s).2.1 = (cutOf signs (trimOf s)).2.1 ∧ ((cutOf signs s).2.1 ≠ [] → trimOf (cutOf signs s).1 = trimOf (cutOf signs (trimOf s)).1 ∧
    ∃ t : BS, (∀ c ∈ t, blankB c = true) ∧ (cutOf signs s).2.2 = (cutOf signs (trimOf s)).2.2 ++ t) := by
  obtain ⟨u, t, hu, ht, he⟩ := trim_parts s
  have h1 : cutOf signs s = (u ++ (cutOf signs (trimOf s ++ t)).1, (cutOf signs (trimOf s ++ t)).2.1, (cutOf signs (trimOf s ++ t)).2.2) := by
    conv => lhs; rw [he]
    exact cutW_lead h.head u _ hu
  have h2 := cut_trail h ht (trimOf s)
  rw [h1]
  refine ⟨h2.1, fun hn => ?_⟩
  have hn' : (cutOf signs (trimOf s)).2.1 ≠ [] := by rw [← h2.1]; exact hn
  refine ⟨?_, t, ht, (h2.2 hn').2⟩
  show trimOf (u ++ (cutOf signs (trimOf s ++ t)).1) = _
  rw [trim_lead hu, (h2.2 hn').1]
/-- What a rule says does not hang on blanks at the end. -/
theorem rule_trail (no : Int) (a b : BS) {t : BS} (ht : ∀ c ∈ t, blankB c = true) : ruleL no a (b ++ t) = ruleL no a b := by
  have n58 : NoBl [[58]] := by intro x hx c hc; simp at hx; subst hx; simp at hc; subst hc; decide
  have n124 : NoBl [[124]] := by intro x hx c hc; simp at hx; subst hx; simp at hc; subst hc; decide
  have h1 := cut_trail n58 ht b
  have hp : rulePat (b ++ t) = rulePat b := by
    unfold rulePat
    rw [h1.1]
    split
    · rfl
    · rename_i hn; rw [(h1.2 hn).1]
  have hr : ruleRest (b ++ t) = ruleRest b ++ t := by
    unfold ruleRest
    rw [h1.1]
    split
    · rfl
    · rename_i hn; rw [(h1.2 hn).2]
  have h2 := cut_trail n58 ht (ruleRest b)
  have h3 := cut_trail n124 ht (ruleRest b)
  have h4 := cut_trail n124 ht (cutOf [[124]] (ruleRest b)).2.2
  have hbad : ruleBad a (b ++ t) = ruleBad a b := by
    unfold ruleBad
    rw [hp, hr, h1.1, h2.1, h3.1]
    congr 1
    by_cases hn : (cutOf [[124]] (ruleRest b)).2.1 = []
    · simp [hn]
    · rw [(h3.2 hn).2, h4.1]
  have hin : trimOf (cutOf [[124]] (ruleRest b ++ t)).1 = trimOf (cutOf [[124]] (ruleRest b)).1 := by
    by_cases hn : (cutOf [[124]] (ruleRest b)).2.1 = []
    · have w1 := cut_whole [[124]] (ruleRest b ++ t)
      have w2 := cut_whole [[124]] (ruleRest b)
      rcases w1 with ⟨_, w1, _⟩ | ⟨_, w1, _⟩
      · rcases w2 with ⟨_, w2, _⟩ | ⟨_, w2, _⟩
        · rw [w1, w2, trim_trail ht]
        · exact absurd hn w2
      · exact absurd (h3.1.trans hn) w1
    · rw [(h3.2 hn).1]
  have hor : trimOf (cutOf [[124]] (ruleRest b ++ t)).2.2 = trimOf (cutOf [[124]] (ruleRest b)).2.2 := by
    by_cases hn : (cutOf [[124]] (ruleRest b)).2.1 = []
    · have w1 := cut_whole [[124]] (ruleRest b ++ t)
      have w2 := cut_whole [[124]] (ruleRest b)
      rcases w1 with ⟨_, _, w1⟩ | ⟨_, w1, _⟩
      · rcases w2 with ⟨_, _, w2⟩ | ⟨_, w2, _⟩
        · rw [w1, w2]
        · exact absurd hn w2
      · exact absurd (h3.1.trans hn) w1
    · rw [(h3.2 hn).2, trim_trail ht]
  unfold ruleL
  rw [hbad, hp, hr, hin, hor]
end Go.Proofs.YtldddecaeloohaaDoor
