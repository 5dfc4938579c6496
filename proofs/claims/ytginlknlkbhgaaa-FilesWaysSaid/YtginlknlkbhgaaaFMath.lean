/-
  Rows of files by their paths, and what changes do to them: no program. No condition.
-/
import Derived.Sort.KeysCollected
import Derived.Test.YtginlknlkbhgaaaLBase
namespace Go.Proofs.Ytginlknlkbhgaaa

abbrev BS := List UInt8
section
variable {α β : Type}

def ins (x : BS × α) : List (BS × α) → List (BS × α)
  | [] => [x]
  | y :: r => if x.1 < y.1 then x :: y :: r else y :: ins x r
def drp (p : BS) (l : List (BS × α)) : List (BS × α) := l.filter (fun y => decide (y.1 ≠ p))
def put (x : BS × α) (l : List (BS × α)) : List (BS × α) := ins x (drp x.1 l)
def look (l : List (BS × α)) (p : BS) : Option α := (l.find? (fun y => decide (y.1 = p))).map (·.2)
def Srt (l : List (BS × α)) : Prop := l.Pairwise (fun a b => a.1 < b.1)

theorem bytesBefore_lt : ∀ a b : BS, bytesBefore a b = decide (a < b)
  | [], [] => by simp [bytesBefore]
  | [], _ :: _ => by simp [bytesBefore]
  | _ :: _, [] => by simp [bytesBefore]
  | a :: r, b :: s => by
    rw [bytesBefore, bytesBefore_lt r s, Bool.eq_iff_iff]
    simp [List.cons_lt_cons_iff]

theorem bs_lt_irrefl (a : BS) : ¬ a < a := List.lt_irrefl a
theorem bs_lt_trans {a b c : BS} (h : a < b) (h' : b < c) : a < c := List.lt_trans h h'
theorem bs_lt_ne {a b : BS} (h : a < b) : a ≠ b := fun e => by rw [e] at h; exact bs_lt_irrefl b h
theorem bs_tri {a b : BS} (h : ¬ a < b) (hne : a ≠ b) : b < a := by
  rcases List.le_total a b with h1 | h1
  · exact absurd (List.le_antisymm h1 (List.not_lt.1 h)) hne
  · by_cases h2 : b < a
    · exact h2
    · exact absurd (List.le_antisymm (List.not_lt.1 h2) h1) hne

theorem mem_ins {x z : BS × α} : ∀ {l : List (BS × α)}, z ∈ ins x l ↔ z = x ∨ z ∈ l
  | [] => by simp [ins]
  | y :: r => by
    unfold ins
    split
    · simp
    · rw [List.mem_cons, mem_ins (l := r), List.mem_cons]
      constructor
      · rintro (h | h | h)
        · exact .inr (.inl h)
        · exact .inl h
        · exact .inr (.inr h)
      · rintro (h | h | h)
        · exact .inr (.inl h)
        · exact .inl h
        · exact .inr (.inr h)
theorem ins_perm (x : BS × α) : ∀ l : List (BS × α), (ins x l).Perm (x :: l)
  | [] => List.Perm.refl _
  | y :: r => by
    unfold ins
    split
    · exact List.Perm.refl _
    · exact ((ins_perm x r).cons y).trans (List.Perm.swap x y r)
theorem ins_length (x : BS × α) (l : List (BS × α)) : (ins x l).length = l.length + 1 := (ins_perm x l).length_eq
theorem ins_map (g : α → β) (x : BS × α) : ∀ l : List (BS × α), (ins x l).map (fun y => (y.1, g y.2)) = ins (x.1, g x.2) (l.map fun y => (y.1, g y.2))
  | [] => rfl
  | y :: r => by
    unfold ins
    split
    · rename_i h; simp [h]
    · rename_i h; simp [h, ins_map g x r]
theorem drp_map (g : α → β) (p : BS) (l : List (BS × α)) : (drp p l).map (fun y => (y.1, g y.2)) = drp p (l.map fun y => (y.1, g y.2)) := by
  unfold drp; rw [List.filter_map]; rfl
theorem put_map (g : α → β) (x : BS × α) (l : List (BS × α)) : (put x l).map (fun y => (y.1, g y.2)) = put (x.1, g x.2) (l.map fun y => (y.1, g y.2)) := by
  unfold put; rw [ins_map, drp_map]
theorem look_map (g : α → β) (l : List (BS × α)) (p : BS) : look (l.map fun y => (y.1, g y.2)) p = (look l p).map g := by
  unfold look; rw [List.find?_map]
  cases h : l.find? ((fun y => decide (y.1 = p)) ∘ fun y => (y.1, g y.2)) with
  | none => rw [show l.find? (fun y => decide (y.1 = p)) = none from h]; rfl
  | some y => rw [show l.find? (fun y => decide (y.1 = p)) = some y from h]; rfl

theorem Srt.nil : Srt ([] : List (BS × α)) := List.Pairwise.nil
theorem Srt.ins {x : BS × α} : ∀ {l : List (BS × α)}, Srt l → (∀ y ∈ l, y.1 ≠ x.1) → Srt (ins x l)
  | [], _, _ => by simp [Srt, Proofs.Ytginlknlkbhgaaa.ins]
  | y :: r, h, hne => by
    obtain ⟨h1, h2⟩ := List.pairwise_cons.1 h
    unfold Proofs.Ytginlknlkbhgaaa.ins
    split
    · rename_i hlt
      refine List.pairwise_cons.2 ⟨fun z hz => ?_, h⟩
      rcases List.mem_cons.1 hz with rfl | hz
      · exact hlt
      · exact bs_lt_trans hlt (h1 z hz)
    · rename_i hlt
      refine List.pairwise_cons.2 ⟨fun z hz => ?_, Srt.ins h2 (fun z hz => hne z (by simp [hz]))⟩
      rcases mem_ins.1 hz with rfl | hz
      · exact bs_tri hlt (fun e => hne y (by simp) e.symm)
      · exact h1 z hz
theorem Srt.drp {l : List (BS × α)} (h : Srt l) (p : BS) : Srt (drp p l) := h.filter _
theorem mem_drp {p : BS} {l : List (BS × α)} {z : BS × α} : z ∈ drp p l ↔ z ∈ l ∧ z.1 ≠ p := by simp [Proofs.Ytginlknlkbhgaaa.drp]
theorem Srt.put {l : List (BS × α)} (h : Srt l) (x : BS × α) : Srt (put x l) := (h.drp x.1).ins (fun _ hy => (mem_drp.1 hy).2)
theorem mem_put {x z : BS × α} {l : List (BS × α)} : z ∈ put x l ↔ z = x ∨ (z ∈ l ∧ z.1 ≠ x.1) := by rw [Proofs.Ytginlknlkbhgaaa.put, mem_ins, mem_drp]
theorem Srt.map {l : List (BS × α)} (h : Srt l) (g : α → β) : Srt (l.map fun y => (y.1, g y.2)) := List.pairwise_map.2 h
theorem Srt.nodup {l : List (BS × α)} (h : Srt l) : l.Nodup := List.Pairwise.imp (S := fun a b => a ≠ b) (fun {_ _} hlt e => bs_lt_ne hlt (congrArg Prod.fst e)) h
theorem Srt.inj {l : List (BS × α)} (h : Srt l) {y z : BS × α} (hy : y ∈ l) (hz : z ∈ l) (he : y.1 = z.1) : y = z := by
  induction l with
  | nil => simp at hy
  | cons a r ih =>
    obtain ⟨h1, h2⟩ := List.pairwise_cons.1 h
    rcases List.mem_cons.1 hy with rfl | hy' <;> rcases List.mem_cons.1 hz with rfl | hz'
    · rfl
    · exact absurd he (bs_lt_ne (h1 z hz'))
    · exact absurd he.symm (bs_lt_ne (h1 y hy'))
    · exact ih h2 hy' hz'
theorem look_mem {l : List (BS × α)} {p : BS} {v : α} (h : look l p = some v) : (p, v) ∈ l := by
  unfold look at h
  cases hf : l.find? (fun y => decide (y.1 = p)) with
  | none => rw [hf] at h; cases h
  | some y =>
    rw [hf] at h
    have hm := List.mem_of_find?_eq_some hf
    have hp : y.1 = p := by simpa using List.find?_some hf
    have hv : y.2 = v := by simpa using h
    rw [← hp, ← hv]; exact hm
theorem look_of_mem {l : List (BS × α)} (h : Srt l) {p : BS} {v : α} (hm : (p, v) ∈ l) : look l p = some v := by
  cases hl : look l p with
  | none =>
    unfold look at hl
    simp only [Option.map_eq_none_iff, List.find?_eq_none] at hl
    exact absurd (hl _ hm) (by simp)
  | some u =>
    have := h.inj hm (look_mem hl) rfl
    exact congrArg some (congrArg Prod.snd this).symm
theorem look_none {l : List (BS × α)} {p : BS} : look l p = none ↔ ∀ y ∈ l, y.1 ≠ p := by
  unfold look
  simp [List.find?_eq_none]
theorem look_put_same {l : List (BS × α)} (h : Srt l) (p : BS) (v : α) : look (put (p, v) l) p = some v := look_of_mem (h.put _) (mem_put.2 (.inl rfl))
theorem look_ext {l : List (BS × α)} (h : Srt l) {l' : List (BS × α)} (h' : Srt l') {p : BS} (he : ∀ v, (p, v) ∈ l ↔ (p, v) ∈ l') : look l p = look l' p := by
  cases hl : look l p with
  | none =>
    cases hl' : look l' p with
    | none => rfl
    | some v => rw [look_of_mem h ((he v).2 (look_mem hl'))] at hl; cases hl
  | some v => exact (look_of_mem h' ((he v).1 (look_mem hl))).symm
theorem look_put_other {l : List (BS × α)} (h : Srt l) {p q : BS} (hne : q ≠ p) (v : α) : look (put (p, v) l) q = look l q :=
  look_ext (h.put _) h (fun u => by
    rw [mem_put]
    constructor
    · rintro (e | e)
      · exact absurd (congrArg Prod.fst e) hne
      · exact e.1
    · exact fun hm => .inr ⟨hm, hne⟩)
theorem look_drp_same {l : List (BS × α)} (p : BS) : look (drp p l) p = none := look_none.2 (fun _ hy => (mem_drp.1 hy).2)
theorem look_drp_other {l : List (BS × α)} (h : Srt l) {p q : BS} (hne : q ≠ p) : look (drp p l) q = look l q :=
  look_ext (h.drp p) h (fun u => by
    rw [mem_drp]
    exact ⟨fun hm => hm.1, fun hm => ⟨hm, hne⟩⟩)
/-- Two rows by their paths with the same files are one. -/
theorem srt_ext : ∀ {l l' : List (BS × α)}, Srt l → Srt l' → (∀ z, z ∈ l ↔ z ∈ l') → l = l' := by
  intro l l' h h' he
  have nd : ∀ {m : List (BS × α)}, Srt m → m.Nodup := fun hm => Srt.nodup hm
  exact List.Perm.eq_of_pairwise (le := fun a b => a.1 < b.1 ∨ a = b) (fun a b ha hb h1 h2 => by
    rcases h1 with h1 | h1
    · rcases h2 with h2 | h2
      · exact absurd (bs_lt_trans h1 h2) (bs_lt_irrefl _)
      · exact h2.symm
    · exact h1) (h.imp fun hlt => .inl hlt) (h'.imp fun hlt => .inl hlt) ((List.perm_ext_iff_of_nodup (nd h) (nd h')).2 he)
theorem look_srt_ext {l l' : List (BS × α)} (h : Srt l) (h' : Srt l') (he : ∀ p, look l p = look l' p) : l = l' :=
  srt_ext h h' (fun z => ⟨fun hz => look_mem (by rw [← he]; exact look_of_mem h hz), fun hz => look_mem (by rw [he]; exact look_of_mem h' hz)⟩)
end

/-! ### files -/
/-- a file's bytes and its time -/
abbrev FD := BS × Int
abbrev Fs := List (BS × FD)
/-- a change: its kind (0 a file's bytes are these, 1 these are behind its bytes, 2 it is gone, 3 it is renamed), path, bytes or new path, time -/
abbrev Ch := Nat × (BS × (BS × Int))
abbrev Ch.kind (c : Ch) : Nat := c.1
abbrev Ch.path (c : Ch) : BS := c.2.1
abbrev Ch.arg (c : Ch) : BS := c.2.2.1
abbrev Ch.time (c : Ch) : Int := c.2.2.2
def textOf (l : Fs) (p : BS) : BS := ((look l p).getD ([], 0)).1
def after (l : Fs) (c : Ch) : Fs :=
  if c.kind = 0 then put (c.path, (c.arg, c.time)) l
  else if c.kind = 1 then put (c.path, (textOf l c.path ++ c.arg, c.time)) l
  else if c.kind = 2 then drp c.path l
  else match look l c.path with
    | none => l
    | some v => put (c.arg, v) (drp c.path l)
def way (a b : BS) : Bool := (a ++ [47]).isPrefixOf b
def blocked {α : Type} (l : List (BS × α)) (p : BS) : Bool := l.any (fun y => way y.1 p || way p y.1)
def used (l : Fs) : Nat := (l.map fun y => y.2.1.length).sum

theorem way_self (a : BS) : way a a = false := by
  unfold way
  rw [Bool.eq_false_iff]
  intro h
  have := (List.isPrefixOf_iff_prefix.1 h).length_le
  rw [List.length_append] at this
  have e : ([47] : BS).length = 1 := rfl
  omega
theorem blocked_map {α β : Type} (g : α → β) (l : List (BS × α)) (p : BS) : blocked (l.map fun y => (y.1, g y.2)) p = blocked l p := by unfold blocked; rw [List.any_map]; rfl
theorem blocked_perm {α : Type} {l l' : List (BS × α)} (h : l.Perm l') (p : BS) : blocked l p = blocked l' p := by unfold blocked; exact h.any_eq
theorem blocked_drp {α : Type} (l : List (BS × α)) (p : BS) : blocked (drp p l) p = blocked l p := by
  unfold blocked drp
  rw [Bool.eq_iff_iff, List.any_eq_true, List.any_eq_true]
  constructor
  · rintro ⟨y, hy, h⟩; exact ⟨y, (List.mem_filter.1 hy).1, h⟩
  · rintro ⟨y, hy, h⟩
    refine ⟨y, List.mem_filter.2 ⟨hy, ?_⟩, h⟩
    simp only [decide_eq_true_eq]
    intro e
    rw [e, way_self] at h
    simp at h
theorem used_perm {l l' : Fs} (h : l.Perm l') : used l = used l' := (h.map _).sum_nat
theorem used_cons (y : BS × FD) (l : Fs) : used (y :: l) = y.2.1.length + used l := rfl
theorem drp_none {α : Type} {l : List (BS × α)} {p : BS} (h : look l p = none) : drp p l = l := List.filter_eq_self.2 (fun y hy => by simpa using look_none.1 h y hy)
theorem drp_perm {α : Type} {l : List (BS × α)} (h : Srt l) {p : BS} {v : α} (hl : look l p = some v) : l.Perm ((p, v) :: drp p l) := by
  have nd : l.Nodup := h.nodup
  refine (List.perm_ext_iff_of_nodup nd ?_).2 (fun z => ?_)
  · exact List.nodup_cons.2 ⟨fun hm => (mem_drp.1 hm).2 rfl, nd.filter _⟩
  · rw [List.mem_cons, mem_drp]
    constructor
    · intro hz
      by_cases e : z.1 = p
      · exact .inl (h.inj hz (look_mem hl) e)
      · exact .inr ⟨hz, e⟩
    · rintro (rfl | hz)
      · exact look_mem hl
      · exact hz.1
theorem put_length {α : Type} {l : List (BS × α)} (h : Srt l) (p : BS) (v : α) : (put (p, v) l).length = if (look l p).isSome then l.length else l.length + 1 := by
  unfold put
  rw [ins_length]
  cases hl : look l p with
  | none => rw [drp_none hl]; rfl
  | some u => have := (drp_perm h hl).length_eq; simp at this ⊢; omega
theorem used_put {l : Fs} (h : Srt l) (p : BS) (v : FD) : used (put (p, v) l) + (textOf l p).length = used l + v.1.length := by
  unfold put
  rw [used_perm (ins_perm _ _), used_cons]
  unfold textOf
  cases hl : look l p with
  | none => rw [drp_none hl]; simp; omega
  | some u => have := used_perm (drp_perm h hl); rw [used_cons] at this; simp at this ⊢; omega
theorem rest_perm {α : Type} {rest : List (BS × α)} (h : Srt rest) {p : BS} {f : α} (hm : (p, f) ∈ rest) : rest.Perm ((p, f) :: drp p rest) := drp_perm h (look_of_mem h hm)
theorem drp_comm {α : Type} (p q : BS) (l : List (BS × α)) : drp p (drp q l) = drp q (drp p l) := by unfold drp; rw [List.filter_filter, List.filter_filter]; congr 1; funext y; exact Bool.and_comm _ _
theorem drp_twice {α : Type} (p : BS) (l : List (BS × α)) : drp p (drp p l) = drp p l := by unfold drp; rw [List.filter_filter]; congr 1; funext y; exact Bool.and_self _
/-- One that is left out is met. -/
theorem blk_self {α : Type} {rest : List (BS × α)} (lo p : BS) : blocked (drp lo (drp lo rest)) p = blocked (drp lo rest) p := by rw [drp_twice]
/-- One that is in no way is met. -/
theorem blk_other {α : Type} {rest : List (BS × α)} (h : Srt rest) {q : BS} {f : α} (hm : (q, f) ∈ rest) {lo p : BS} (hne : q ≠ lo) (h1 : way q p = false) (h2 : way p q = false) : blocked (drp lo (drp q rest)) p = blocked (drp lo rest) p := by
  have hm' : (q, f) ∈ drp lo rest := mem_drp.2 ⟨hm, hne⟩
  rw [blocked_perm (rest_perm (h.drp lo) hm') p, drp_comm]
  unfold blocked
  rw [List.any_cons]
  simp [h1, h2]
/-- One that is in the way. -/
theorem blk_yes {α : Type} {rest : List (BS × α)} {q : BS} {f : α} (hm : (q, f) ∈ rest) {lo p : BS} (hne : q ≠ lo) (hw : way q p = true ∨ way p q = true) : blocked (drp lo rest) p = true := by
  unfold blocked
  rw [List.any_eq_true]
  refine ⟨(q, f), mem_drp.2 ⟨hm, hne⟩, ?_⟩
  rcases hw with hw | hw <;> simp [hw]
theorem Srt.after {l : Fs} (h : Srt l) (c : Ch) : Srt (after l c) := by
  unfold Proofs.Ytginlknlkbhgaaa.after
  split
  · exact h.put _
  · split
    · exact h.put _
    · split
      · exact h.drp _
      · split
        · exact h
        · exact (h.drp _).put _

end Go.Proofs.Ytginlknlkbhgaaa
