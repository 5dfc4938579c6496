/-
  Rows of files by their paths, and what changes do to them: no program. No condition.
  A map from paths to files, as the program keeps it: what it holds, as a row by the paths; look-up, store, delete, len, range, at the operations. No condition.
  A strings.Builder that lies anywhere: what WriteString and String do to it; which blocks turn. No condition but that the text stays below 2^40 bytes.
  strings.HasPrefix, strings.CutPrefix, and whether one path is in the way of another one: for every text.
  What the program's maps from paths to files answer, for any map, nil or not: has, collide.
  How many bytes a tree's files have, and a map copied: for any map, nil or not.
  A file, made longer: its bytes, and its end that grows; which blocks turn. No condition but that the text stays below 2^40 bytes.
-/
import Derived.Sort.KeysCollected
import Derived.Maps.RangeWalk
import Derived.Maps.Ext
import Derived.Test.YtchnbnmajagpjaaGreatDoorBA
import Derived.Test.YtchnbnmajagpjaaGreatDoorProg
import Derived.Test.YtchnbnmajagpjaaGreatDoorBL
namespace Go.Proofs.YtchnbnmajagpjaaGreatDoor

abbrev BS := List UInt8
section
variable {α β : Type}

def ins (x : BS × α) : List (BS × α) → List (BS × α)
  | [] => [x]
  | y :: r => if x.1 < y.1 then x :: y :: r else y :: ins x r
def drp (p : BS) (l : List (BS × α)) : List (BS × α) := l.filter (fun y => decide (y.1 ≠ p))
def put (x : BS × α) (l : List (BS × α)) : List (BS × α) := ins x (drp x.1 l)
def look (l : List (BS × α)) (p : BS) : Option α := (l.find? (fun y => decide (y.1 = p))).map (·.2)
def Srt (l : List (BS × α)) : Prop := l.Pairwise (fun a b => a.1 < b.1)

theorem bytesBefore_lt : ∀ a b : BS, bytesBefore a b = decide (a < b)
  | [], [] => by simp [bytesBefore]
  | [], _ :: _ => by simp [bytesBefore]
  | _ :: _, [] => by simp [bytesBefore]
  | a :: r, b :: s => by
    rw [bytesBefore, bytesBefore_lt r s, Bool.eq_iff_iff]
    simp [List.cons_lt_cons_iff]

theorem bs_lt_irrefl (a : BS) : ¬ a < a := List.lt_irrefl a
theorem bs_lt_trans {a b c : BS} (h : a < b) (h' : b < c) : a < c := List.lt_trans h h'
theorem bs_lt_ne {a b : BS} (h : a < b) : a ≠ b := fun e => by rw [e] at h; exact bs_lt_irrefl b h
theorem bs_tri {a b : BS} (h : ¬ a < b) (hne : a ≠ b) : b < a := by
  rcases List.le_total a b with h1 | h1
  · exact absurd (List.le_antisymm h1 (List.not_lt.1 h)) hne
  · by_cases h2 : b < a
    · exact h2
    · exact absurd (List.le_antisymm (List.not_lt.1 h2) h1) hne

theorem mem_ins {x z : BS × α} : ∀ {l : List (BS × α)}, z ∈ ins x l ↔ z = x ∨ z ∈ l
  | [] => by simp [ins]
  | y :: r => by
    unfold ins
    split
    · simp
    · rw [List.mem_cons, mem_ins (l := r), List.mem_cons]
      constructor
      · rintro (h | h | h)
        · exact .inr (.inl h)
        · exact .inl h
        · exact .inr (.inr h)
      · rintro (h | h | h)
        · exact .inr (.inl h)
        · exact .inl h
        · exact .inr (.inr h)
theorem ins_perm (x : BS × α) : ∀ l : List (BS × α), (ins x l).Perm (x :: l)
  | [] => List.Perm.refl _
  | y :: r => by
    unfold ins
    split
    · exact List.Perm.refl _
    · exact ((ins_perm x r).cons y).trans (List.Perm.swap x y r)
theorem ins_length (x : BS × α) (l : List (BS × α)) : (ins x l).length = l.length + 1 := (ins_perm x l).length_eq
theorem ins_map (g : α → β) (x : BS × α) : ∀ l : List (BS × α), (ins x l).map (fun y => (y.1, g y.2)) = ins (x.1, g x.2) (l.map fun y => (y.1, g y.2))
  | [] => rfl
  | y :: r => by
    unfold ins
    split
    · rename_i h; simp [h]
    · rename_i h; simp [h, ins_map g x r]
theorem drp_map (g : α → β) (p : BS) (l : List (BS × α)) : (drp p l).map (fun y => (y.1, g y.2)) = drp p (l.map fun y => (y.1, g y.2)) := by
  unfold drp; rw [List.filter_map]; rfl
theorem put_map (g : α → β) (x : BS × α) (l : List (BS × α)) : (put x l).map (fun y => (y.1, g y.2)) = put (x.1, g x.2) (l.map fun y => (y.1, g y.2)) := by
  unfold put; rw [ins_map, drp_map]
theorem look_map (g : α → β) (l : List (BS × α)) (p : BS) : look (l.map fun y => (y.1, g y.2)) p = (look l p).map g := by
  unfold look; rw [List.find?_map]
  cases h : l.find? ((fun y => decide (y.1 = p)) ∘ fun y => (y.1, g y.2)) with
  | none => rw [show l.find? (fun y => decide (y.1 = p)) = none from h]; rfl
  | some y => rw [show l.find? (fun y => decide (y.1 = p)) = some y from h]; rfl

theorem Srt.nil : Srt ([] : List (BS × α)) := List.Pairwise.nil
theorem Srt.ins {x : BS × α} : ∀ {l : List (BS × α)}, Srt l → (∀ y ∈ l, y.1 ≠ x.1) → Srt (ins x l)
  | [], _, _ => by simp [Srt, Proofs.YtchnbnmajagpjaaGreatDoor.ins]
  | y :: r, h, hne => by
    obtain ⟨h1, h2⟩ := List.pairwise_cons.1 h
    unfold Proofs.YtchnbnmajagpjaaGreatDoor.ins
    split
    · rename_i hlt
      refine List.pairwise_cons.2 ⟨fun z hz => ?_, h⟩
      rcases List.mem_cons.1 hz with rfl | hz
      · exact hlt
      · exact bs_lt_trans hlt (h1 z hz)
    · rename_i hlt
      refine List.pairwise_cons.2 ⟨fun z hz => ?_, Srt.ins h2 (fun z hz => hne z (by simp [hz]))⟩
      rcases mem_ins.1 hz with rfl | hz
      · exact bs_tri hlt (fun e => hne y (by simp) e.symm)
      · exact h1 z hz
theorem Srt.drp {l : List (BS × α)} (h : Srt l) (p : BS) : Srt (drp p l) := h.filter _
theorem mem_drp {p : BS} {l : List (BS × α)} {z : BS × α} : z ∈ drp p l ↔ z ∈ l ∧ z.1 ≠ p := by simp [Proofs.YtchnbnmajagpjaaGreatDoor.drp]
theorem Srt.put {l : List (BS × α)} (h : Srt l) (x : BS × α) : Srt (put x l) := (h.drp x.1).ins (fun _ hy => (mem_drp.1 hy).2)
theorem mem_put {x z : BS × α} {l : List (BS × α)} : z ∈ put x l ↔ z = x ∨ (z ∈ l ∧ z.1 ≠ x.1) := by rw [Proofs.YtchnbnmajagpjaaGreatDoor.put, mem_ins, mem_drp]
theorem Srt.map {l : List (BS × α)} (h : Srt l) (g : α → β) : Srt (l.map fun y => (y.1, g y.2)) := List.pairwise_map.2 h
theorem Srt.nodup {l : List (BS × α)} (h : Srt l) : l.Nodup := List.Pairwise.imp (S := fun a b => a ≠ b) (fun {_ _} hlt e => bs_lt_ne hlt (congrArg Prod.fst e)) h
theorem Srt.inj {l : List (BS × α)} (h : Srt l) {y z : BS × α} (hy : y ∈ l) (hz : z ∈ l) (he : y.1 = z.1) : y = z := by
  induction l with
  | nil => simp at hy
  | cons a r ih =>
    obtain ⟨h1, h2⟩ := List.pairwise_cons.1 h
    rcases List.mem_cons.1 hy with rfl | hy' <;> rcases List.mem_cons.1 hz with rfl | hz'
    · rfl
    · exact absurd he (bs_lt_ne (h1 z hz'))
    · exact absurd he.symm (bs_lt_ne (h1 y hy'))
    · exact ih h2 hy' hz'
theorem look_mem {l : List (BS × α)} {p : BS} {v : α} (h : look l p = some v) : (p, v) ∈ l := by
  unfold look at h
  cases hf : l.find? (fun y => decide (y.1 = p)) with
  | none => rw [hf] at h; cases h
  | some y =>
    rw [hf] at h
    have hm := List.mem_of_find?_eq_some hf
    have hp : y.1 = p := by simpa using List.find?_some hf
    have hv : y.2 = v := by simpa using h
    rw [← hp, ← hv]; exact hm
theorem look_of_mem {l : List (BS × α)} (h : Srt l) {p : BS} {v : α} (hm : (p, v) ∈ l) : look l p = some v := by
  cases hl : look l p with
  | none =>
    unfold look at hl
    simp only [Option.map_eq_none_iff, List.find?_eq_none] at hl
    exact absurd (hl _ hm) (by simp)
  | some u =>
    have := h.inj hm (look_mem hl) rfl
    exact congrArg some (congrArg Prod.snd this).symm
theorem look_none {l : List (BS × α)} {p : BS} : look l p = none ↔ ∀ y ∈ l, y.1 ≠ p := by
  unfold look
  simp [List.find?_eq_none]
theorem look_put_same {l : List (BS × α)} (h : Srt l) (p : BS) (v : α) : look (put (p, v) l) p = some v := look_of_mem (h.put _) (mem_put.2 (.inl rfl))
theorem look_ext {l : List (BS × α)} (h : Srt l) {l' : List (BS × α)} (h' : Srt l') {p : BS} (he : ∀ v, (p, v) ∈ l ↔ (p, v) ∈ l') : look l p = look l' p := by
  cases hl : look l p with
  | none =>
    cases hl' : look l' p with
    | none => rfl
    | some v => rw [look_of_mem h ((he v).2 (look_mem hl'))] at hl; cases hl
  | some v => exact (look_of_mem h' ((he v).1 (look_mem hl))).symm
theorem look_put_other {l : List (BS × α)} (h : Srt l) {p q : BS} (hne : q ≠ p) (v : α) : look (put (p, v) l) q = look l q :=
  look_ext (h.put _) h (fun u => by
    rw [mem_put]
    constructor
    · rintro (e | e)
      · exact absurd (congrArg Prod.fst e) hne
      · exact e.1
    · exact fun hm => .inr ⟨hm, hne⟩)
theorem look_drp_same {l : List (BS × α)} (p : BS) : look (drp p l) p = none := look_none.2 (fun _ hy => (mem_drp.1 hy).2)
theorem look_drp_other {l : List (BS × α)} (h : Srt l) {p q : BS} (hne : q ≠ p) : look (drp p l) q = look l q :=
  look_ext (h.drp p) h (fun u => by
    rw [mem_drp]
    exact ⟨fun hm => hm.1, fun hm => ⟨hm, hne⟩⟩)
/-- Two rows by their paths with the same files are one. -/
theorem srt_ext : ∀ {l l' : List (BS × α)}, Srt l → Srt l' → (∀ z, z ∈ l ↔ z ∈ l') → l = l' := by
  intro l l' h h' he
  have nd : ∀ {m : List (BS × α)}, Srt m → m.Nodup := fun hm => Srt.nodup hm
  exact List.Perm.eq_of_pairwise (le := fun a b => a.1 < b.1 ∨ a = b) (fun a b ha hb h1 h2 => by
    rcases h1 with h1 | h1
    · rcases h2 with h2 | h2
      · exact absurd (bs_lt_trans h1 h2) (bs_lt_irrefl _)
      · exact h2.symm
    · exact h1) (h.imp fun hlt => .inl hlt) (h'.imp fun hlt => .inl hlt) ((List.perm_ext_iff_of_nodup (nd h) (nd h')).2 he)
theorem look_srt_ext {l l' : List (BS × α)} (h : Srt l) (h' : Srt l') (he : ∀ p, look l p = look l' p) : l = l' :=
  srt_ext h h' (fun z => ⟨fun hz => look_mem (by rw [← he]; exact look_of_mem h hz), fun hz => look_mem (by rw [he]; exact look_of_mem h' hz)⟩)
end

/-! ### files -/
/-- a file's bytes and its time -/
abbrev FD := BS × Int
abbrev Fs := List (BS × FD)
/-- a change: its kind (0 a file's bytes are these, 1 these are behind its bytes, 2 it is gone, 3 it is renamed), path, bytes or new path, time -/
abbrev Ch := Nat × (BS × (BS × Int))
abbrev Ch.kind (c : Ch) : Nat := c.1
abbrev Ch.path (c : Ch) : BS := c.2.1
abbrev Ch.arg (c : Ch) : BS := c.2.2.1
abbrev Ch.time (c : Ch) : Int := c.2.2.2
def textOf (l : Fs) (p : BS) : BS := ((look l p).getD ([], 0)).1
def after (l : Fs) (c : Ch) : Fs :=
  if c.kind = 0 then put (c.path, (c.arg, c.time)) l
  else if c.kind = 1 then put (c.path, (textOf l c.path ++ c.arg, c.time)) l
  else if c.kind = 2 then drp c.path l
  else match look l c.path with
    | none => l
    | some v => put (c.arg, v) (drp c.path l)
def way (a b : BS) : Bool := (a ++ [47]).isPrefixOf b
def blocked {α : Type} (l : List (BS × α)) (p : BS) : Bool := l.any (fun y => way y.1 p || way p y.1)
def used (l : Fs) : Nat := (l.map fun y => y.2.1.length).sum

theorem way_self (a : BS) : way a a = false := by
  unfold way
  rw [Bool.eq_false_iff]
  intro h
  have := (List.isPrefixOf_iff_prefix.1 h).length_le
  rw [List.length_append] at this
  have e : ([47] : BS).length = 1 := rfl
  omega
theorem blocked_map {α β : Type} (g : α → β) (l : List (BS × α)) (p : BS) : blocked (l.map fun y => (y.1, g y.2)) p = blocked l p := by unfold blocked; rw [List.any_map]; rfl
theorem blocked_perm {α : Type} {l l' : List (BS × α)} (h : l.Perm l') (p : BS) : blocked l p = blocked l' p := by unfold blocked; exact h.any_eq
theorem blocked_drp {α : Type} (l : List (BS × α)) (p : BS) : blocked (drp p l) p = blocked l p := by
  unfold blocked drp
  rw [Bool.eq_iff_iff, List.any_eq_true, List.any_eq_true]
  constructor
  · rintro ⟨y, hy, h⟩; exact ⟨y, (List.mem_filter.1 hy).1, h⟩
  · rintro ⟨y, hy, h⟩
    refine ⟨y, List.mem_filter.2 ⟨hy, ?_⟩, h⟩
    simp only [decide_eq_true_eq]
    intro e
    rw [e, way_self] at h
    simp at h
theorem used_perm {l l' : Fs} (h : l.Perm l') : used l = used l' := (h.map _).sum_nat
theorem used_cons (y : BS × FD) (l : Fs) : used (y :: l) = y.2.1.length + used l := rfl
theorem drp_none {α : Type} {l : List (BS × α)} {p : BS} (h : look l p = none) : drp p l = l := List.filter_eq_self.2 (fun y hy => by simpa using look_none.1 h y hy)
theorem drp_perm {α : Type} {l : List (BS × α)} (h : Srt l) {p : BS} {v : α} (hl : look l p = some v) : l.Perm ((p, v) :: drp p l) := by
  have nd : l.Nodup := h.nodup
  refine (List.perm_ext_iff_of_nodup nd ?_).2 (fun z => ?_)
  · exact List.nodup_cons.2 ⟨fun hm => (mem_drp.1 hm).2 rfl, nd.filter _⟩
  · rw [List.mem_cons, mem_drp]
    constructor
    · intro hz
      by_cases e : z.1 = p
      · exact .inl (h.inj hz (look_mem hl) e)
      · exact .inr ⟨hz, e⟩
    · rintro (rfl | hz)
      · exact look_mem hl
      · exact hz.1
theorem put_length {α : Type} {l : List (BS × α)} (h : Srt l) (p : BS) (v : α) : (put (p, v) l).length = if (look l p).isSome then l.length else l.length + 1 := by
  unfold put
  rw [ins_length]
  cases hl : look l p with
  | none => rw [drp_none hl]; rfl
  | some u => have := (drp_perm h hl).length_eq; simp at this ⊢; omega
theorem used_put {l : Fs} (h : Srt l) (p : BS) (v : FD) : used (put (p, v) l) + (textOf l p).length = used l + v.1.length := by
  unfold put
  rw [used_perm (ins_perm _ _), used_cons]
  unfold textOf
  cases hl : look l p with
  | none => rw [drp_none hl]; simp; omega
  | some u => have := used_perm (drp_perm h hl); rw [used_cons] at this; simp at this ⊢; omega
theorem rest_perm {α : Type} {rest : List (BS × α)} (h : Srt rest) {p : BS} {f : α} (hm : (p, f) ∈ rest) : rest.Perm ((p, f) :: drp p rest) := drp_perm h (look_of_mem h hm)
theorem drp_comm {α : Type} (p q : BS) (l : List (BS × α)) : drp p (drp q l) = drp q (drp p l) := by unfold drp; rw [List.filter_filter, List.filter_filter]; congr 1; funext y; exact Bool.and_comm _ _
theorem drp_twice {α : Type} (p : BS) (l : List (BS × α)) : drp p (drp p l) = drp p l := by unfold drp; rw [List.filter_filter]; congr 1; funext y; exact Bool.and_self _
/-- One that is left out is met. -/
theorem blk_self {α : Type} {rest : List (BS × α)} (lo p : BS) : blocked (drp lo (drp lo rest)) p = blocked (drp lo rest) p := by rw [drp_twice]
/-- One that is in no way is met. -/
theorem blk_other {α : Type} {rest : List (BS × α)} (h : Srt rest) {q : BS} {f : α} (hm : (q, f) ∈ rest) {lo p : BS} (hne : q ≠ lo) (h1 : way q p = false) (h2 : way p q = false) : blocked (drp lo (drp q rest)) p = blocked (drp lo rest) p := by
  have hm' : (q, f) ∈ drp lo rest := mem_drp.2 ⟨hm, hne⟩
  rw [blocked_perm (rest_perm (h.drp lo) hm') p, drp_comm]
  unfold blocked
  rw [List.any_cons]
  simp [h1, h2]
/-- One that is in the way. -/
theorem blk_yes {α : Type} {rest : List (BS × α)} {q : BS} {f : α} (hm : (q, f) ∈ rest) {lo p : BS} (hne : q ≠ lo) (hw : way q p = true ∨ way p q = true) : blocked (drp lo rest) p = true := by
  unfold blocked
  rw [List.any_eq_true]
  refine ⟨(q, f), mem_drp.2 ⟨hm, hne⟩, ?_⟩
  rcases hw with hw | hw <;> simp [hw]
theorem Srt.after {l : Fs} (h : Srt l) (c : Ch) : Srt (after l c) := by
  unfold Proofs.YtchnbnmajagpjaaGreatDoor.after
  split
  · exact h.put _
  · split
    · exact h.put _
    · split
      · exact h.drp _
      · split
        · exact h
        · exact (h.drp _).put _

end Go.Proofs.YtchnbnmajagpjaaGreatDoor

namespace Go.Proofs.YtchnbnmajagpjaaGreatDoor
open Go.RowKit Go.Shelf Go.Maps

/-- a file as the program keeps it: its bytes, its time, the block of its end that grows -/
abbrev FV := BS × (Int × Option Nat)
def endA (o : Option Nat) : Option Addr := o.map fun b => ⟨b, 0, none⟩
def fileV (f : FV) : Value := .agg #[.string (txt f.1), .int .i64 f.2.1, .pointer (endA f.2.2)]
theorem endA_inj {a b : Option Nat} (h : endA a = endA b) : a = b := by
  cases a <;> cases b <;> simp_all [endA]
theorem fileV_inj {a b : FV} (h : fileV a = fileV b) : a = b := by
  obtain ⟨a1, a2, a3⟩ := a
  obtain ⟨b1, b2, b3⟩ := b
  simp only [fileV, Value.agg.injEq, Array.mk.injEq, List.cons.injEq, Value.string.injEq, Value.int.injEq, Value.pointer.injEq, true_and, and_true] at h
  obtain ⟨h1, h2, h3⟩ := h
  rw [txt_inj h1, h2, endA_inj h3]
open Classical in
noncomputable def fileR (v : Value) : Option (DataW FV × List MemPlace) := if h : ∃ f, v = fileV f then some (.held h.choose, []) else none
theorem fileR_mk (f : FV) : fileR (fileV f) = some (.held f, []) := by
  unfold fileR
  rw [dif_pos ⟨f, rfl⟩]
  have := Exists.choose_spec (⟨f, rfl⟩ : ∃ g, fileV f = fileV g)
  rw [← fileV_inj this]
theorem fileR_inv {v : Value} {y : DataW FV × List MemPlace} (h : fileR v = some y) : ∃ f, v = fileV f ∧ y = (.held f, []) := by
  by_cases hv : ∃ f, v = fileV f
  · obtain ⟨f, rfl⟩ := hv
    rw [fileR_mk] at h
    exact ⟨f, rfl, by cases h; rfl⟩
  · unfold fileR at h; rw [dif_neg hv] at h; cases h

abbrev FVs := List (BS × FV)
/-- what the map reads as -/
def dat (L : FVs) : DataW FV := .map (L.map fun y => (.string y.1, .held y.2))
theorem dat_find (L : FVs) (p : BS) : (L.map fun y => ((.string y.1 : Lit), (.held y.2 : DataW FV))).find? (fun z => z.1.sameKey (.string p)) = (L.find? (fun y => decide (y.1 = p))).map (fun y => (.string y.1, .held y.2)) := by
  rw [List.find?_map]
  have : ((fun z : Lit × DataW FV => z.1.sameKey (.string p)) ∘ fun y : BS × FV => (.string y.1, .held y.2)) = fun y => decide (y.1 = p) := by
    funext y; show (y.1 == p) = _; rw [Bool.eq_iff_iff]; simp
  rw [this]
theorem dat_at (L : FVs) (p : BS) (z : DataW FV) : (dat L).atKey (.string p) z = match look L p with | some f => .held f | none => z := by
  unfold dat DataW.atKey
  simp only [dat_find]
  unfold look
  cases L.find? (fun y => decide (y.1 = p)) <;> rfl
theorem dat_has (L : FVs) (p : BS) : has (dat L) (.string p) = (look L p).isSome := by
  have h1 := dat_at L p .nil
  cases hl : look L p with
  | some f =>
    refine has_true_of_atKey (y := .held f) fun zd => ?_
    rw [dat_at, hl]
  | none =>
    refine has_false_of_atKey fun zd => ?_
    rw [dat_at, hl]
theorem dat_size (L : FVs) : size (dat L) = L.length := by simp [dat, size]
theorem dat_ins (x : BS × FV) : ∀ L : FVs, DataW.insert ((.string x.1 : Lit), (.held x.2 : DataW FV)) (L.map fun y => (.string y.1, .held y.2)) = (ins x L).map fun y => (.string y.1, .held y.2)
  | [] => rfl
  | y :: r => by
    simp only [List.map_cons, DataW.insert, ins, Lit.before, bytesBefore_lt, decide_eq_true_eq]
    split
    · rfl
    · rw [dat_ins x r]; rfl
theorem dat_drp (p : BS) (L : FVs) : (L.map fun y => ((.string y.1 : Lit), (.held y.2 : DataW FV))).filter (fun z => !z.1.sameKey (.string p)) = (drp p L).map fun y => (.string y.1, .held y.2) := by
  rw [List.filter_map]
  have : ((fun z : Lit × DataW FV => !z.1.sameKey (.string p)) ∘ fun y : BS × FV => (.string y.1, .held y.2)) = fun y => decide (y.1 ≠ p) := by
    funext y; show (!(y.1 == p)) = _; rw [Bool.eq_iff_iff]; simp
  rw [this]; rfl
theorem dat_put (p : BS) (f : FV) (L : FVs) : (dat L).put (.string p) (.held f) = dat (put (p, f) L) := by
  show DataW.map _ = _
  rw [dat_drp, dat_ins (p, f)]; rfl
theorem dat_del (p : BS) (L : FVs) : (dat L).del (.string p) = dat (drp p L) := by
  show DataW.map _ = _
  rw [dat_drp]; rfl

theorem lawK : Keyed Tryz.prog 9 := string_keyed Tryz.underlying9
theorem hkeyS {s : ByteArray} (hs : s.size ≤ maxLen) : keyOf Tryz.prog 9 (.string s) = some (.string s.data.toList) := Go.WideMaps.keyOf_string_mk Tryz.underlying9 hs
theorem zeroF (w : World) : (zeroValue 120).run Tryz.prog w = .ok (fileV ([], 0, none)) w := by kernel_rfl

theorem ownsMap_tight {H : Type} {P : Program} {k : TypeId} {R : Value → Option (DataW H × List MemPlace)} {w : World} {b n : Nat} {D : DataW H} (h : w.ownsMap P k R b n D) : w.ownsMap P k R b (Maps.size D) D := by
  obtain ⟨es, clock, hb, F, hs, rfl⟩ := h
  exact ⟨es, clock, hb, F, by simp [Maps.size, length_sorted], rfl⟩

/-- Block b is a map that holds L. -/
def IsM (w : World) (b : Nat) (L : FVs) : Prop := w.ownsMap Tryz.prog 9 fileR b L.length (dat L) ∧ Srt L
theorem IsM.of {w : World} {b n : Nat} {L : FVs} (h : w.ownsMap Tryz.prog 9 fileR b n (dat L)) (hs : Srt L) : IsM w b L := by
  have := ownsMap_tight h
  rw [dat_size] at this
  exact ⟨this, hs⟩
theorem IsM.lt {w : World} {b : Nat} {L : FVs} (h : IsM w b L) : b < w.heap.size := h.1.lt
theorem IsM.kept {w w' : World} {b : Nat} {L : FVs} (h : IsM w b L) (hb : w'.heap[b]? = w.heap[b]?) : IsM w' b L := by
  obtain ⟨⟨es, clock, hh, r⟩, hs⟩ := h
  exact ⟨⟨es, clock, hb.trans hh, r⟩, hs⟩
theorem IsM.notCells {w : World} {b : Nat} {L : FVs} (h : IsM w b L) {c : Nat} {cs : Array Value} {t : TypeId} {fz : Nat × Nat} (hc : w.heap[c]? = some (.cells cs t fz)) : c ≠ b := by
  obtain ⟨⟨es, clock, hh, _⟩, _⟩ := h
  rintro rfl
  rw [hh] at hc; cases hc
theorem IsM.made (w : World) : IsM (w.alloc (.map #[] 0)) w.heap.size [] := ⟨World.ownsMap_made w _ _ _, Srt.nil⟩

/-- The value is a map that holds L, or nil, and L is empty. -/
def MapV (w : World) (m : Option Nat) (L : FVs) : Prop := (m = none ∧ L = []) ∨ ∃ b, m = some b ∧ IsM w b L
theorem MapV.srt {w : World} {m : Option Nat} {L : FVs} (h : MapV w m L) : Srt L := by
  rcases h with ⟨_, rfl⟩ | ⟨b, _, h⟩
  · exact Srt.nil
  · exact h.2
def fileOr (L : FVs) (s : ByteArray) : FV := (look L s.data.toList).getD ([], 0, none)
theorem MapV.look {w : World} {m : Option Nat} {L : FVs} (h : MapV w m L) (s : ByteArray) (hs : s.size ≤ maxLen) :
    (Instr.lookup 89 (.map m) (.string s) false).run Tryz.prog w = .ok (fileV (fileOr L s)) w := by
  rcases h with ⟨rfl, rfl⟩ | ⟨b, rfl, h⟩
  · exact look_nil false lawK Tryz.underlying89 (zeroF w) (hkeyS hs)
  · obtain ⟨v, ps, hrun, hv⟩ := h.1.lookup lawK Tryz.underlying89 (zeroF w) (fileR_mk _) (hkeyS hs)
    rw [hrun]
    obtain ⟨f, rfl, hf⟩ := fileR_inv hv
    rw [dat_at] at hf
    unfold fileOr
    cases hl : Proofs.YtchnbnmajagpjaaGreatDoor.look L s.data.toList with
    | none => rw [hl] at hf; cases hf; rfl
    | some g => rw [hl] at hf; cases hf; rfl
theorem MapV.lookOk {w : World} {m : Option Nat} {L : FVs} (h : MapV w m L) (s : ByteArray) (hs : s.size ≤ maxLen) :
    (Instr.lookup 89 (.map m) (.string s) true).run Tryz.prog w = .ok (.tuple #[fileV (fileOr L s), .bool (Proofs.YtchnbnmajagpjaaGreatDoor.look L s.data.toList).isSome]) w := by
  rcases h with ⟨rfl, rfl⟩ | ⟨b, rfl, h⟩
  · exact look_nil true lawK Tryz.underlying89 (zeroF w) (hkeyS hs)
  · obtain ⟨v, ps, hrun, hv⟩ := h.1.look_ok lawK Tryz.underlying89 (zeroF w) (fileR_mk _) (hkeyS hs)
    rw [hrun, dat_has]
    obtain ⟨f, rfl, hf⟩ := fileR_inv hv
    rw [dat_at] at hf
    unfold fileOr
    cases hl : Proofs.YtchnbnmajagpjaaGreatDoor.look L s.data.toList with
    | none => rw [hl] at hf; cases hf; rfl
    | some g => rw [hl] at hf; cases hf; rfl
theorem MapV.len {w : World} {m : Option Nat} {L : FVs} (h : MapV w m L) (ty : TypeId) : (Builtin.len_ #[89] ty #[.map m]).run Tryz.prog w = .ok (.int .i64 L.length) w := by
  rcases h with ⟨rfl, rfl⟩ | ⟨b, rfl, h⟩
  · exact len_nil Tryz.underlying89 ty
  · have := h.1.len Tryz.underlying89 ty
    rwa [dat_size] at this

/-- A range over the map is under way; rest is still to come. -/
def RngM (w : World) (b r : Nat) (L rest : FVs) : Prop :=
  ∃ left cnt, w.ranges Tryz.prog 9 fileR b r L.length (dat L) left cnt ∧ (∀ p, left (.string p) = (look rest p).isSome) ∧ Srt rest ∧ (∀ y ∈ rest, y ∈ L) ∧ Srt L
theorem RngM.isM {w : World} {b r : Nat} {L rest : FVs} (h : RngM w b r L rest) : IsM w b L := let ⟨_, _, h1, _, _, _, h2⟩ := h; ⟨h1.owns, h2⟩
theorem RngM.lt {w : World} {b r : Nat} {L rest : FVs} (h : RngM w b r L rest) : r < w.heap.size := let ⟨_, _, h1, _⟩ := h; h1.lt
theorem RngM.kept {w w' : World} {b r : Nat} {L rest : FVs} (h : RngM w b r L rest) (hb : w'.heap[b]? = w.heap[b]?) (hr : w'.heap[r]? = w.heap[r]?) : RngM w' b r L rest := by
  obtain ⟨left, cnt, ⟨es, clock, since, seen, c0, hb0, F, hs, hD, hr0, rr⟩, h2⟩ := h
  exact ⟨left, cnt, ⟨es, clock, since, seen, c0, hb.trans hb0, F, hs, hD, hr.trans hr0, rr⟩, h2⟩

section
variable (w : World) {ops : Array Oper} {rs : List Oper} {o : Oper} {a : Act} {Q : Exit → Act → World → Prop}

theorem wpList_range_m (hg : o.guard = none) (m : Operand) (hop : o.op = Op.range 89 m) (b : Nat) (L : FVs) (hm : a.eval m = .map (some b)) (hM : IsM w b L)
    (hK : ∀ w', RngM w' b w.heap.size L L → w.grownBy w' none → w'.heap.size = w.heap.size + 1 → wpList Tryz.prog ops Q rs (a.put o.dst (.pointer (some ⟨w.heap.size, 0, none⟩))) w') :
    wpList Tryz.prog ops Q (o :: rs) a w := by
  refine wpList_range_own w hg m 89 hop 9 120 lawK Tryz.underlying89 fileR b L.length (dat L) hm hM.1 ?_
  intro w' h1 h2 h3
  exact hK w' ⟨_, _, h1, fun p => dat_has L p, hM.2, fun _ h => h, hM.2⟩ h2 h3

theorem wpList_next_m (hg : o.guard = none) (it : Operand) (hop : o.op = Op.next it false) (b r : Nat) (L rest : FVs) (hit : a.eval it = .pointer (some ⟨r, 0, none⟩)) (h : RngM w b r L rest)
    (hDone : rest = [] → wpList Tryz.prog ops Q rs (a.put o.dst (.tuple #[.bool false])) w)
    (hMore : ∀ (s tx : ByteArray) (tm : Int) (en : Option Nat) (w' : World), (s.data.toList, tx.data.toList, tm, en) ∈ rest → s.size ≤ maxLen → RngM w' b r L (drp s.data.toList rest) → w'.rangeLeft b r < w.rangeLeft b r → w.grownBy w' (some r) → w'.heap.size = w.heap.size →
      (Instr.entry (.pointer (some ⟨r, 0, none⟩))).run Tryz.prog w' = .ok (.tuple #[.string s, .agg #[.string tx, .int .i64 tm, .pointer (endA en)]]) w' →
      wpList Tryz.prog ops Q rs (a.put o.dst (.tuple #[.bool true, .string s, .agg #[.string tx, .int .i64 tm, .pointer (endA en)]])) w') :
    wpList Tryz.prog ops Q (o :: rs) a w := by
  obtain ⟨left, cnt, hrg, hl, hsr, hsub, hsL⟩ := h
  refine wpList_next_ranges w hg it hop 9 lawK fileR encStr fileV (fun key kl hk => ?_) (fun v y hv => ?_) b r L.length (dat L) left cnt hit hrg ?_ ?_
  · obtain ⟨x, hx, _⟩ := keyOf_str Tryz.underlying9 hk; exact ⟨x, hx⟩
  · obtain ⟨f, hf, _⟩ := fileR_inv hv; exact ⟨f, hf⟩
  · intro _ hl0
    refine hDone ?_
    rcases rest with _ | ⟨y, r'⟩
    · rfl
    · have := hl y.1
      rw [hl0, look_of_mem hsr (v := y.2) (by simp)] at this
      cases this
  · intro x f kl y w' cnt' hkey hlk hv hat hrg' hlt hgr hsz hen
    obtain ⟨x', ex, rfl, hxl⟩ := keyOf_str Tryz.underlying9 hkey
    obtain rfl := encStr_inj ex
    obtain ⟨f', ef, rfl⟩ := fileR_inv hv
    obtain rfl := fileV_inj ef
    rw [hl] at hlk
    obtain ⟨g, hg'⟩ := Option.isSome_iff_exists.1 hlk
    have hgm := look_mem hg'
    have hfg : g = f := by
      have := hat .nil
      rw [dat_at, look_of_mem hsL (hsub _ hgm)] at this
      cases this; rfl
    subst hfg
    refine hMore (txt x) (txt g.1) g.2.1 g.2.2 w' (by rw [txt_data, txt_data]; exact hgm) (by rw [txt_size]; exact hxl) ⟨_, cnt', hrg', fun p => ?_, hsr.drp _, fun y hy => hsub y (mem_drp.1 hy).1, hsL⟩ ?_ hgr hsz hen
    · rw [txt_data, hl]
      by_cases hp : p = x
      · subst hp; rw [look_drp_same]; simp [Lit.sameKey]
      · rw [look_drp_other hsr hp]; simp [Lit.sameKey, hp]
    · rw [hrg'.left_eq, hrg.left_eq]; exact hlt

theorem wpList_store_m (hg : o.guard = none) (m x v : Operand) (hop : o.op = Op.mapUpdate 89 m x v) (b : Nat) (L : FVs) (hm : a.eval m = .map (some b)) (hM : IsM w b L) (hn : L.length < maxLen)
    (s : ByteArray) (hs : s.size ≤ maxLen) (f : FV) (hx : a.eval x = .string s) (hv : a.eval v = fileV f)
    (hK : ∀ w', IsM w' b (put (s.data.toList, f) L) → w.mapTurned w' b → wpList Tryz.prog ops Q rs (a.put o.dst undef) w') :
    wpList Tryz.prog ops Q (o :: rs) a w := by
  refine wpList_mapUpdate_in w hg m x v 89 hop 9 120 lawK Tryz.underlying89 fileR b L.length (dat L) hm hM.1 hn (.string s) (fileV f) _ hx hv (hkeyS hs) (.held f) [] (fileR_mk f) ?_
  intro w' h1 h2
  rw [dat_put] at h1
  exact hK w' (IsM.of h1 (hM.2.put _)) h2

theorem wpList_delete_m (hg : o.guard = none) (m x : Operand) (hop : o.op = Op.call { callee := Callee.builtin Builtin.delete, args := #[m, x], argTypes := #[89, 9] }) (b : Nat) (L : FVs) (hm : a.eval m = .map (some b)) (hM : IsM w b L)
    (s : ByteArray) (hs : s.size ≤ maxLen) (hx : a.eval x = .string s)
    (hK : ∀ w', IsM w' b (drp s.data.toList L) → w.mapTurned w' b → wpList Tryz.prog ops Q rs (a.put o.dst (.tuple #[])) w') :
    wpList Tryz.prog ops Q (o :: rs) a w := by
  refine wpList_delete_own w hg m x 89 9 hop 120 lawK Tryz.underlying89 fileR b L.length (dat L) hm hM.1 (.string s) _ hx (hkeyS hs) ?_
  intro w' h1 h2
  rw [dat_del] at h1
  exact hK w' (IsM.of h1 (hM.2.drp _)) h2
end

end Go.Proofs.YtchnbnmajagpjaaGreatDoor

namespace Go.Proofs.YtchnbnmajagpjaaGreatDoor
open Go.RowKit Go.Shelf

/-- Block b is a builder that holds l, and its blocks are of Y; p is what it knows of itself. -/
def BuiltP (w : World) (Y : Nat → Prop) (b : Nat) (p : Value) (l : List UInt8) : Prop :=
  ∃ v, w.heap[b]? = some (.cells #[p, v] 128 (0, 0)) ∧ w.ownsRowF 0 5 1 v l.length (Lib.byteCells l) ∧ (l = [] → v = .slice none 0 0) ∧ Y b ∧ ∀ g, v.ownBlock = some g → Y g
def BuiltIn (w : World) (Y : Nat → Prop) (b : Nat) (l : List UInt8) : Prop := BuiltP w Y b (.pointer (some ⟨b, 0, none⟩)) l

theorem BuiltP.lt {w : World} {Y : Nat → Prop} {b : Nat} {p : Value} {l : List UInt8} (h : BuiltP w Y b p l) : b < w.heap.size := by
  obtain ⟨v, hb, _⟩ := h
  exact (Array.getElem?_eq_some_iff.1 hb).1
theorem BuiltP.kept {w w' : World} {Y Z X : Nat → Prop} {b : Nat} {p : Value} {l : List UInt8} (h : BuiltP w Y b p l) (hT : Turned X w w') (hd : ∀ n, Y n → ¬ X n) (hZ : ∀ n, Y n → n < w.heap.size → Z n) : BuiltP w' Z b p l := by
  have hlt := h.lt
  obtain ⟨v, hb, hown, hnl, hyb, hyg⟩ := h
  refine ⟨v, (hT.block b hlt (hd b hyb)).trans hb, ⟨hown.1, ?_⟩, hnl, hZ b hyb hlt, fun g hg => hZ g (hyg g hg) (hown.lt g hg).2⟩
  rcases hown.2 with hn | ⟨g, cap, cur, fz, rfl, h1, hgg, rest⟩
  · exact .inl hn
  · have hg := hyg g (by simp [Value.ownBlock])
    exact .inr ⟨g, cap, cur, fz, rfl, h1, (hT.block g (Array.getElem?_eq_some_iff.1 hgg).1 (hd g hg)).trans hgg, rest⟩
theorem BuiltP.fresh (w : World) : BuiltP (w.alloc (.cells #[.pointer none, .slice none 0 0] 128 (0, 0))) (fun n => n = w.heap.size) w.heap.size (.pointer none) [] :=
  ⟨.slice none 0 0, World.alloc_heap_new w _, World.ownsRowF_nil _ _ _ _, fun _ => rfl, rfl, by simp [Value.ownBlock]⟩

theorem strCells_bytes (s : ByteArray) : Lib.strCells s = Lib.byteCells s.data.toList := rfl

theorem turned_grown {X : Nat → Prop} {a b : World} {row : Option Nat} (h : a.grownBy b row) (hr : ∀ g, row = some g → X g) : Turned X a b :=
  ⟨h.os, h.tape, h.output, h.size, fun k hk hx => h.block k hk (fun e => hx (hr k e.symm))⟩

set_option maxRecDepth 100000 in
set_option maxHeartbeats 1000000 in
theorem copyCheck_any (b : Nat) (Y : Nat → Prop) (p : Value) (hp : p = .pointer none ∨ p = .pointer (some ⟨b, 0, none⟩)) (l : List UInt8) (w : World) (h : BuiltP w Y b p l) :
    Calls Tryz.prog 96 #[.pointer (some ⟨b, 0, none⟩)] w fun e w' => e = .returned (.tuple #[]) ∧ BuiltIn w' Y b l ∧ Turned Y w w' ∧ w'.heap.size = w.heap.size := by
  have h0 := h
  obtain ⟨v, hb, hown, hnl, hyb, hyg⟩ := h
  rcases hp with rfl | rfl
  · refine (Any.Builder_copyCheck_fresh (ρ := lays166_ren) { lays166 with } extra166.toX72 b w (by rw [Lib.cell_of_heap hb]; rfl) (by simp [World.shape?, hb]; rfl) (Lib.frozen_of_heap hb 0)).mono ?_
    rintro e w' ⟨rfl, rfl⟩
    have hne := Lib.ownBlock_neF hown hb (by decide)
    refine ⟨rfl, ⟨v, by simp [World.setCell, Array.getElem?_modify, hb], hown.kept (row := some b) ⟨rfl, rfl, rfl, by simp [World.setCell], fun k _ hk => Below.heap_setCell _ _ _ _ (fun e => hk (by simp [e]))⟩ (Or.inr hne), hnl, hyb, hyg⟩, Turned.setCell _ _ _ hyb, by simp⟩
  · refine (Any.Builder_copyCheck_used (ρ := lays166_ren) { lays166 with } extra166.toX72 b w (by rw [Lib.cell_of_heap hb]; rfl)).mono ?_
    rintro e w' ⟨rfl, rfl⟩
    exact ⟨rfl, h0, Turned.refl _ _, rfl⟩

/-- An append of a text to a row of bytes: as the library says it, and: the row is where it was, or in a new block. -/
theorem run_append_place {P : Program} (w : World) (t u ty e : TypeId) (i : TypeInfo) (ht : P.underlying t = some (.slice e)) (hu : P.underlying u = some .string) (hi : P.info? e = some i) (hz : i.zero = some (.int .u8 0))
    (hsize : i.size = 1) (hby : i.bytes = 1) (v : Value) (n : Nat) (xs : List Value) (hown : w.ownsRowF 0 e 1 v n xs) (s : ByteArray) (h63 : n + s.size ≤ maxLen) (hbytes : n + s.size ≤ 140737488355328) :
    ∃ v' w', (Builtin.append_ #[t, u] ty #[v, .string s]).run P w = .ok v' w' ∧ w'.ownsRowF 0 e 1 v' (n + s.size) (xs ++ Lib.strCells s) ∧ w.grownBy w' v.ownBlock ∧ (v' = .slice none 0 0 ↔ v = .slice none 0 0 ∧ s.size = 0) ∧ ∀ g, v'.ownBlock = some g → v.ownBlock = some g ∨ w.heap.size ≤ g := by
  obtain ⟨v', w', h1, h2, h3, h4⟩ := Lib.run_append_own_stringF (P := P) w 0 t u ty e i ht hu hi hz hsize hby v n xs hown s h63 hbytes (Nat.zero_le _)
  rcases hown.2 with ⟨rfl, rfl⟩ | ⟨g, cap, cur, fz, rfl, hbg, hg, hfz, hnc, hcm, hcs, htake⟩
  · obtain ⟨v1, w1, k1, k2, k3, _⟩ := Lib.run_append_own_stringF (P := P) w w.heap.size t u ty e i ht hu hi hz hsize hby (.slice none 0 0) 0 xs ⟨hown.1, .inl ⟨rfl, rfl⟩⟩ s h63 hbytes (Nat.le_refl _)
    rw [k1] at h1
    cases h1
    exact ⟨_, _, k1, h2, h3, h4, fun g hg => .inr (k2.lt g hg).1⟩
  · refine ⟨v', w', h1, h2, h3, h4, fun g' hg' => ?_⟩
    have hxl : xs.length = n := by simpa using hown.1
    by_cases hroom : n + s.size ≤ cap
    · have hcs' : cur.size = cap := by simpa using hcs
      have hr := Lib.run_append_room_stringF (P := P) w t u ty e i ht hu hi hsize g n cap cur fz hg (by simpa using hfz) s hroom (by omega)
      rw [hr] at h1
      cases h1
      exact .inl hg'
    · have hr := Lib.run_append_grow_string (P := P) w t u ty e i (.int .u8 0) ht hu hi hz ⟨g, 0, none⟩ n cap xs (by rw [hsize]; simpa using hxl) (hown.cells (g := g) rfl) s (by omega) (by unfold maxLen at h63; omega) (by rw [hby]; exact growslice_fits (by unfold maxLen at h63; omega) (by omega))
      rw [hr] at h1
      cases h1
      simp only [Value.ownBlock, Option.some.injEq] at hg'
      omega

theorem wpList_append_place {P : Program} (w : World) {ops : Array Oper} {rest : List Oper} {o : Oper} {a : Act} {Q : Exit → Act → World → Prop} (hgd : o.guard = none) (sl x : Operand) (t u : TypeId)
    (ho : o.op = .call { callee := .builtin .append, args := #[sl, x], argTypes := #[t, u] }) (e : TypeId) (i : TypeInfo) (ht : P.underlying t = some (.slice e)) (hu : P.underlying u = some .string) (hi : P.info? e = some i) (hz : i.zero = some (.int .u8 0))
    (hsize : i.size = 1) (hby : i.bytes = 1) (v : Value) (n : Nat) (xs : List Value) (hs : a.eval sl = v) (hown : w.ownsRowF 0 e 1 v n xs) (s : ByteArray) (hx : a.eval x = .string s) (h63 : n + s.size ≤ maxLen) (hbytes : n + s.size ≤ 140737488355328)
    (h : ∀ v' w', w'.ownsRowF 0 e 1 v' (n + s.size) (xs ++ Lib.strCells s) → w.grownBy w' v.ownBlock → (v' = .slice none 0 0 ↔ v = .slice none 0 0 ∧ s.size = 0) → (∀ g, v'.ownBlock = some g → v.ownBlock = some g ∨ w.heap.size ≤ g) → wpList P ops Q rest (a.put o.dst v') w') : wpList P ops Q (o :: rest) a w := by
  refine wpList_plain hgd fun K hK => ?_
  obtain ⟨v', w', hr, h2, h3, h4, h5⟩ := run_append_place (P := P) w t u o.type e i ht hu hi hz hsize hby v n xs hown s h63 hbytes
  unfold Oper.wp execOp
  simp only [ho, resolve, invoke, builtin, Sem.run_bind, Sem.run_pure, Result.andThen_ok, List.map_toArray, List.map_cons, List.map_nil, hs, hx, hr]
  exact hK _ _ (h v' w' h2 h3 h4 h5)

set_option maxRecDepth 100000 in
set_option maxHeartbeats 2000000 in
theorem write_any (b : Nat) (Y : Nat → Prop) (p : Value) (hp : p = .pointer none ∨ p = .pointer (some ⟨b, 0, none⟩)) (l : List UInt8) (s : ByteArray) (w : World) (h : BuiltP w Y b p l) (hlen : l.length + s.size ≤ 1099511627776) :
    Calls Tryz.prog 71 #[.pointer (some ⟨b, 0, none⟩), .string s] w fun e w' => e = .returned (.tuple #[.int .i64 s.size, .nilIface]) ∧ BuiltIn w' (fun n => Y n ∨ w.heap.size ≤ n) b (l ++ s.data.toList) ∧ Turned Y w w' := by
  obtain ⟨i0, hi, hz0, hz1, hz2⟩ := info_parts extra166.infoByte
  have HC := Lib.hid (copyCheck_any b Y p hp l w h)
  clear h
  go_enter Tryz.func71, Tryz.ntmps71
  go_wp2_with (go_at_call 96; refine (HC.out).mono ?_)
  rintro e w1 ⟨rfl, hb1, ht1, hsz1⟩
  obtain ⟨v, hbk, hown, hnl, hyb, hyg⟩ := hb1
  have c1 : w1.cell? ⟨b, 1, none⟩ = some v := by rw [Lib.cell_of_heap hbk]; rfl
  clear HC
  go_wp2_with (at_builtin; refine wpList_append_place _ rfl _ _ 126 9 rfl 5 i0 Tryz.underlying126 Tryz.underlying9 hi hz0 hz1 hz2 _ _ _ rfl hown s rfl ?c3 ?c4 ?_)
  case c3 => unfold maxLen; omega
  case c4 => omega
  intro v' w2 hown' hgrow hnil hplace
  have HN : Hid (l ++ s.data.toList = [] → v' = .slice none 0 0) := fun e => hnil.2 ⟨hnl (List.append_eq_nil_iff.1 e).1, by rw [← txt_toList s, (List.append_eq_nil_iff.1 e).2]; rfl⟩
  clear hnil hnl
  have hne := Lib.ownBlock_neF hown hbk (by decide)
  have hlt : b < w1.heap.size := (Array.getElem?_eq_some_iff.1 hbk).1
  have hb2 : w2.heap[b]? = some (.cells #[.pointer (some ⟨b, 0, none⟩), v] 128 (0, 0)) := (hgrow.block b hlt (fun e => hne e.symm)).trans hbk
  have d0 : w2.cell? ⟨b, 0, none⟩ = some (.pointer (some ⟨b, 0, none⟩)) := by rw [Lib.cell_of_heap hb2]; rfl
  have d1 : w2.cell? ⟨b, 1, none⟩ = some v := by rw [Lib.cell_of_heap hb2]; rfl
  have f1 : w2.frozen? ⟨b, 1, none⟩ = false := Lib.frozen_of_heap hb2 1
  obtain ⟨ao, n', cap, rfl⟩ : ∃ ao n' cap, v' = .slice ao n' cap := by
    rcases hown'.2 with ⟨hv, _⟩ | ⟨g, cap, cur, fz, hv, _⟩
    · exact ⟨_, _, _, hv⟩
    · exact ⟨_, _, _, hv⟩
  have HT : Hid (Turned Y w w2) := ht1.trans (turned_grown hgrow hyg)
  have HG : Hid (∀ g, (Value.slice ao n' cap).ownBlock = some g → Y g ∨ w.heap.size ≤ g) := fun g hg => (hplace g hg).elim (fun h => .inl (hyg g h)) (fun h => .inr (by omega))
  have HB : Hid (Lib.BuilderAtF 128 5 0 b (.pointer (some ⟨b, 0, none⟩)) (Lib.byteCells (l ++ s.data.toList)) (w2.setCell ⟨b, 1, none⟩ (.slice ao n' cap))) := by
    refine Lib.BuilderAtF.put (Nat.zero_le _) hb2 ?_ (by decide)
    have e1 : Lib.byteCells (l ++ s.data.toList) = Lib.byteCells l ++ Lib.strCells s := by rw [strCells_bytes]; simp [Lib.byteCells]
    rw [e1, List.length_append, Lib.byteCells_length, Lib.strCells_length]
    exact hown'
  clear hown' hgrow ht1 hown hplace
  go_wp2
  go_ret2
  refine ⟨rfl, ?_, HT.out.trans (Turned.setCell _ _ _ hyb)⟩
  obtain ⟨_, v2, hv2, ho2, _⟩ := HB.out
  have ev : v2 = .slice ao n' cap := by
    have : (w2.setCell ⟨b, 1, none⟩ (.slice ao n' cap)).heap[b]? = some (.cells #[.pointer (some ⟨b, 0, none⟩), .slice ao n' cap] 128 (0, 0)) := by simp [World.setCell, Array.getElem?_modify, hb2]
    rw [this] at hv2
    simpa using hv2.symm
  subst ev
  exact ⟨_, hv2, by rw [← Lib.byteCells_length]; exact ho2, HN.out, .inl hyb, HG.out⟩

set_option maxRecDepth 100000 in
set_option maxHeartbeats 2000000 in
theorem string_some (b : Nat) (Y : Nat → Prop) (l : List UInt8) (w : World) (h : BuiltIn w Y b l) (h0 : l ≠ []) (hl : l.length ≤ 1099511627776) :
    Calls Tryz.prog 72 #[.pointer (some ⟨b, 0, none⟩)] w fun e w' => e = .returned (.string (txt l)) ∧ BuiltIn w' Y b l ∧ Turned Y w w' := by
  obtain ⟨v, hbk, hown, hnl, hyb, hyg⟩ := h
  have hl0 : l.length ≠ 0 := by simpa using h0
  obtain ⟨g, cap, cur, fz, rfl, hbg, hg, hfz, hnc, hcm, hcs, htake⟩ : ∃ g cap cur fz, v = .slice (some ⟨g, 0, none⟩) l.length cap ∧ 0 ≤ g ∧ w.heap[g]? = some (.cells cur 5 fz) ∧ fz.2 ≤ l.length * 1 ∧ l.length ≤ cap ∧ cap ≤ maxLen ∧ cur.size = cap * 1 ∧ cur.toList.take (l.length * 1) = Lib.byteCells l := by
    rcases hown.2 with ⟨_, hz⟩ | ⟨g, cap, cur, fz, hv, r⟩
    · exact absurd hz hl0
    · exact ⟨g, cap, cur, fz, hv, r⟩
  have hyg' : Y g := hyg g rfl
  have c1 : w.drew.cell? ⟨b, 1, none⟩ = some (.slice (some ⟨g, 0, none⟩) l.length cap) := by
    have : w.drew.heap[b]? = some (.cells #[.pointer (some ⟨b, 0, none⟩), .slice (some ⟨g, 0, none⟩) l.length cap] 128 (0, 0)) := hbk
    rw [Lib.cell_of_heap this]; rfl
  have hSD : (Builtin.unsafeSliceData_ #[126] 148 #[.slice (some ⟨g, 0, none⟩) l.length cap]).run Tryz.prog w.drew = .ok (.pointer (some ⟨g, 0, none⟩)) w.drew :=
    Lib.run_unsafeSliceData_row _ _ _ _ _ _ (by omega)
  have hUS : (Builtin.unsafeString_ #[148, 3] 9 #[.pointer (some ⟨g, 0, none⟩), .int .i64 l.length]).run Tryz.prog w.drew = .ok (.string (txt l)) (w.drew.freeze ⟨g, 0, none⟩ l.length) := by
    refine Lib.run_unsafeString_row w.drew 148 3 9 5 Tryz.underlying148 extra166.cellsByte g cur.size (by have hg' : w.drew.heap[g]? = some (.cells cur 5 fz) := hg; simp [World.shape?, hg']) l h0 (by omega) (by omega) ?_
    intro j x hx
    exact hown.cells (g := g) rfl j (.int .u8 x.toNat) (by simp [Lib.byteCells, hx])
  have hne := Lib.ownBlock_neF hown hbk (by decide)
  have HK : Hid (BuiltIn (w.drew.freeze ⟨g, 0, none⟩ l.length) Y b l) := by
    have hA : Lib.BuilderAtF 128 5 0 b (.pointer (some ⟨b, 0, none⟩)) (Lib.byteCells l) w.drew := ⟨Nat.zero_le _, _, hbk, by rw [Lib.byteCells_length]; exact hown, hne⟩
    have hF := hA.froze (g := g) (cap := cap) (by rw [Lib.byteCells_length]; exact c1)
    rw [Lib.byteCells_length] at hF
    obtain ⟨_, v2, hv2, ho2, _⟩ := hF
    have hgb : g ≠ b := fun e => hne (by simp [Value.ownBlock, e])
    have ev : v2 = .slice (some ⟨g, 0, none⟩) l.length cap := by
      have h1 : (w.drew.freeze ⟨g, 0, none⟩ l.length).heap[b]? = some (.cells #[.pointer (some ⟨b, 0, none⟩), .slice (some ⟨g, 0, none⟩) l.length cap] 128 (0, 0)) := by
        unfold World.freeze
        split
        · exact hbk
        · simp only [Array.getElem?_modify]; rw [if_neg hgb]; exact hbk
      rw [h1] at hv2
      simpa using hv2.symm
    subst ev
    exact ⟨_, hv2, by rw [Lib.byteCells_length] at ho2; exact ho2, fun e => absurd e h0, hyb, hyg⟩
  have HT : Hid (Turned Y w (w.drew.freeze ⟨g, 0, none⟩ l.length)) := by
    unfold World.freeze
    split
    · exact Turned.drew _ _
    · refine ⟨rfl, rfl, rfl, by simp, fun k _ hk => ?_⟩
      simp only [Array.getElem?_modify]
      rw [if_neg (fun e => hk (by rw [← e]; exact hyg'))]
      rfl
  have mixed := lays169.mixed
  clear hown htake hyg hyg' hg hbk hnl
  go_enter Tryz.func72, Tryz.ntmps72
  go_wp2
  go_region_o
  all_goals (go_wp2; go_ret; exact ⟨rfl, HK.out, HT.out⟩)

set_option maxRecDepth 100000 in
set_option maxHeartbeats 2000000 in
theorem string_any (b : Nat) (Y : Nat → Prop) (l : List UInt8) (w : World) (h : BuiltIn w Y b l) (hl : l.length ≤ 1099511627776) :
    Calls Tryz.prog 72 #[.pointer (some ⟨b, 0, none⟩)] w fun e w' => e = .returned (.string (txt l)) ∧ BuiltIn w' Y b l ∧ Turned Y w w' := by
  by_cases h0 : l = []
  · subst h0
    obtain ⟨v, hbk, hown, hnl, hyb, hyg⟩ := h
    obtain rfl := hnl rfl
    have hUS : ∀ (W : World) (q : Option Addr), (Builtin.unsafeString_ #[148, 3] 9 #[.pointer q, .int .i64 0]).run Tryz.prog W = .ok (.string (txt [])) W := fun W q => Any.unsafeString_none lays169 extra169 W q
    have c1 : w.drew.cell? ⟨b, 1, none⟩ = some (.slice none 0 0) := by
      have : w.drew.heap[b]? = some (.cells #[.pointer (some ⟨b, 0, none⟩), .slice none 0 0] 128 (0, 0)) := hbk
      rw [Lib.cell_of_heap this]; rfl
    have hSD : (Builtin.unsafeSliceData_ #[126] 148 #[.slice none 0 0]).run Tryz.prog w.drew = .ok (.pointer none) w.drew := rfl
    have mixed := lays169.mixed
    have HK : Hid (BuiltIn w.drew Y b []) := ⟨_, hbk, hown, fun _ => rfl, hyb, hyg⟩
    clear hbk hown hyg hl hnl
    go_enter Tryz.func72, Tryz.ntmps72
    go_wp2
    go_region_o
    all_goals (go_wp2; go_ret; exact ⟨rfl, HK.out, Turned.drew _ _⟩)
  · exact string_some b Y l w h h0 hl

end Go.Proofs.YtchnbnmajagpjaaGreatDoor

namespace Go.Proofs.YtchnbnmajagpjaaGreatDoor
open Go.RowKit Go.Shelf

abbrev ByteArray.L (s : ByteArray) : BS := s.data.toList
def preB (p s : ByteArray) : Bool := p.data.toList.isPrefixOf s.data.toList
theorem pre_take {p s : ByteArray} (h : preB p s = true) : p.size ≤ s.size ∧ s.extract 0 p.size = p ∧ s.data.toList = p.data.toList ++ (s.extract p.size s.size).data.toList := by
  have hp : p.data.toList <+: s.data.toList := List.isPrefixOf_iff_prefix.1 h
  obtain ⟨r, hr⟩ := hp
  have hl : p.size ≤ s.size := by rw [← size_list p, ← size_list s, ← hr]; simp
  have h1 : s.extract 0 p.size = p := by
    rw [extract_txt, ← hr, List.drop_zero, Nat.sub_zero, ← size_list p, List.take_left, txt_toList]
  refine ⟨hl, h1, ?_⟩
  rw [extract_txt, txt_data, ← hr, ← size_list p, List.drop_left, List.take_of_length_le]
  rw [← size_list s, ← hr]; simp
theorem pre_short {p s : ByteArray} (h : preB p s = true) : p.size ≤ s.size := (pre_take h).1
theorem pre_ne {p s : ByteArray} (h : preB p s = false) : s.extract 0 p.size ≠ p := fun e => by
  have : preB p s = true := by
    unfold preB
    rw [List.isPrefixOf_iff_prefix, ← e, extract_txt, txt_data, List.drop_zero, Nat.sub_zero]
    exact List.take_prefix _ _
  rw [h] at this; cases this

set_option maxRecDepth 100000 in
set_option maxHeartbeats 1000000 in
theorem litePre_any (s p : ByteArray) (w : World) : Calls Tryz.prog 147 #[.string s, .string p] w fun e w' => e = .returned (.bool (preB p s)) ∧ w = w' := by
  cases h : preB p s with
  | true =>
    obtain ⟨h1, h2, _⟩ := pre_take h
    have e1 : decide ((p.size : Int) ≤ (s.size : Int)) = true := by simp; omega
    have e2 : ((s.extract 0 p.size).toList == p.toList) = true := by rw [str_eq]; simp [h2]
    have h2' : ((s.size : Int) < (p.size : Int)) = False := by simp; omega
    clear h h2
    go_enter Tryz.func147, Tryz.ntmps147
    go_wp2
    go_ret
    exact ⟨by simp_all, rfl⟩
  | false =>
    by_cases h1 : p.size ≤ s.size
    · have h2 := pre_ne h
      have e1 : decide ((p.size : Int) ≤ (s.size : Int)) = true := by simp; omega
      have e2 : ((s.extract 0 p.size).toList == p.toList) = false := by rw [str_eq]; simp [h2]
      have h2' : ((s.size : Int) < (p.size : Int)) = False := by simp; omega
      clear h h2
      go_enter Tryz.func147, Tryz.ntmps147
      go_wp2
      go_ret
      exact ⟨by simp_all, rfl⟩
    · have e1 : decide ((p.size : Int) ≤ (s.size : Int)) = false := by simp; omega
      clear h
      go_enter Tryz.func147, Tryz.ntmps147
      go_wp2
      go_ret
      exact ⟨rfl, rfl⟩

set_option maxRecDepth 100000 in
theorem hasPre_any (s p : ByteArray) (w : World) : Calls Tryz.prog 135 #[.string s, .string p] w fun e w' => e = .returned (.bool (preB p s)) ∧ w = w' := by
  have H := Lib.hid (litePre_any s p w)
  go_enter Tryz.func135, Tryz.ntmps135
  go_wp2_with (go_at_call 147; refine (H.out).mono ?_; rintro e w' ⟨rfl, rfl⟩)
  go_ret
  exact ⟨rfl, rfl⟩

theorem litePre_t (s p : ByteArray) (w : World) (h : preB p s = true) : Calls Tryz.prog 147 #[.string s, .string p] w fun e w' => e = .returned (.bool true) ∧ w = w' := by
  have := litePre_any s p w; rwa [h] at this
theorem litePre_f (s p : ByteArray) (w : World) (h : preB p s = false) : Calls Tryz.prog 147 #[.string s, .string p] w fun e w' => e = .returned (.bool false) ∧ w = w' := by
  have := litePre_any s p w; rwa [h] at this

def cutT (s p : ByteArray) : ByteArray := if preB p s then s.extract p.size s.size else s

set_option maxRecDepth 100000 in
set_option maxHeartbeats 1000000 in
theorem liteCut_any (s p : ByteArray) (w : World) : Calls Tryz.prog 146 #[.string s, .string p] w fun e w' => e = .returned (.tuple #[.string (cutT s p), .bool (preB p s)]) ∧ w = w' := by
  cases h : preB p s with
  | true =>
    have H := Lib.hid (litePre_t s p w h)
    have h1 := pre_short h
    have e2 : ((s.size : Int) < (p.size : Int)) = False := by simp; omega
    have HC : Hid (cutT s p = s.extract p.size s.size) := by show _ = _; unfold cutT; rw [h]; rfl
    clear h
    go_enter Tryz.func146, Tryz.ntmps146
    go_wp2_with (go_at_call 147; refine (H.out).mono ?_; rintro e w' ⟨rfl, rfl⟩)
    go_ret2
    rw [HC.out]
    exact ⟨by simp, rfl⟩
  | false =>
    have H := Lib.hid (litePre_f s p w h)
    have HC : Hid (cutT s p = s) := by show _ = _; unfold cutT; rw [h]; rfl
    clear h
    go_enter Tryz.func146, Tryz.ntmps146
    go_wp2_with (go_at_call 147; refine (H.out).mono ?_; rintro e w' ⟨rfl, rfl⟩)
    go_ret2
    rw [HC.out]
    exact ⟨rfl, rfl⟩

set_option maxRecDepth 100000 in
theorem cutPre_any (s p : ByteArray) (w : World) : Calls Tryz.prog 134 #[.string s, .string p] w fun e w' => e = .returned (.tuple #[.string (cutT s p), .bool (preB p s)]) ∧ w = w' := by
  have H := Lib.hid (liteCut_any s p w)
  go_enter Tryz.func134, Tryz.ntmps134
  go_wp2_with (go_at_call 146; refine (H.out).mono ?_; rintro e w' ⟨rfl, rfl⟩)
  go_ret2
  exact ⟨rfl, rfl⟩

theorem way_cut (a b : ByteArray) : way a.data.toList b.data.toList = (preB a b && preB ⟨#[47]⟩ (cutT b a)) := by
  unfold way
  cases h : preB a b with
  | false =>
    rw [Bool.false_and, Bool.eq_false_iff]
    intro h'
    have h1 : a.data.toList <+: b.data.toList := (List.prefix_append _ _).trans (List.isPrefixOf_iff_prefix.1 h')
    have h2 : preB a b = true := List.isPrefixOf_iff_prefix.2 h1
    rw [h] at h2; cases h2
  | true =>
    obtain ⟨_, _, h3⟩ := pre_take h
    have e : cutT b a = b.extract a.size b.size := by unfold cutT; rw [h]; rfl
    rw [Bool.true_and, e, h3, Bool.eq_iff_iff, List.isPrefixOf_iff_prefix]
    unfold preB
    rw [List.isPrefixOf_iff_prefix, List.prefix_append_right_inj]

theorem cutPre_t (s p : ByteArray) (w : World) (h : preB p s = true) : Calls Tryz.prog 134 #[.string s, .string p] w fun e w' => e = .returned (.tuple #[.string (cutT s p), .bool true]) ∧ w = w' := by
  have := cutPre_any s p w; rwa [h] at this
theorem cutPre_f (s p : ByteArray) (w : World) (h : preB p s = false) : Calls Tryz.prog 134 #[.string s, .string p] w fun e w' => e = .returned (.tuple #[.string (cutT s p), .bool false]) ∧ w = w' := by
  have := cutPre_any s p w; rwa [h] at this

set_option maxRecDepth 100000 in
set_option maxHeartbeats 1000000 in
theorem isInWay_any (a b : ByteArray) (w : World) : Calls Tryz.prog 115 #[.string a, .string b] w fun e w' => e = .returned (.bool (way a.data.toList b.data.toList)) ∧ w = w' := by
  rw [way_cut]
  cases h : preB a b with
  | false =>
    have H := Lib.hid (cutPre_f b a w h)
    clear h
    go_enter Tryz.func115, Tryz.ntmps115
    go_wp2_with (go_at_call 134; refine (H.out).mono ?_; rintro e w' ⟨rfl, rfl⟩)
    go_ret
    exact ⟨rfl, rfl⟩
  | true =>
    have H := Lib.hid (cutPre_t b a w h)
    obtain ⟨c, hc⟩ : ∃ c, c = cutT b a := ⟨_, rfl⟩
    rw [← hc] at H ⊢
    have H2 := Lib.hid (hasPre_any c ⟨#[47]⟩ w)
    clear h hc
    go_enter Tryz.func115, Tryz.ntmps115
    go_wp2_with (first | (go_at_call 134; refine (H.out).mono ?_; rintro e w' ⟨rfl, rfl⟩) | (go_at_call 135; refine (H2.out).mono ?_; rintro e w' ⟨rfl, rfl⟩))
    go_ret
    exact ⟨by simp, rfl⟩

end Go.Proofs.YtchnbnmajagpjaaGreatDoor

namespace Go.Proofs.YtchnbnmajagpjaaGreatDoor
open Go.RowKit Go.Shelf Go.Maps

set_option maxRecDepth 100000 in
set_option maxHeartbeats 1000000 in
theorem has_any (m : Option Nat) (L : FVs) (s : ByteArray) (hs : s.size ≤ maxLen) (w : World) (h : MapV w m L) :
    Calls Tryz.prog 64 #[.map m, .string s] w fun e w' => e = .returned (.bool (look L s.data.toList).isSome) ∧ Below w.heap.size w w' := by
  have hrun := h.lookOk s hs
  obtain ⟨x, y, z, hf⟩ : ∃ x y z, fileV (fileOr L s) = .agg #[.string x, .int .i64 y, .pointer z] := ⟨_, _, _, rfl⟩
  obtain ⟨b, hb⟩ : ∃ b, b = (look L s.data.toList).isSome := ⟨_, rfl⟩
  rw [hf, ← hb] at hrun
  rw [← hb]
  clear hf hb h
  go_enter Tryz.func64, Tryz.ntmps64
  go_wp2
  go_ret
  exact ⟨rfl, (((Below.refl _ w).alloc (Nat.le_refl _) _))⟩

def wayB (a b : ByteArray) : Bool := way a.data.toList b.data.toList
theorem wayB_any (a b : ByteArray) (w : World) : Calls Tryz.prog 115 #[.string a, .string b] w fun e w' => e = .returned (.bool (wayB a b)) ∧ w = w' := isInWay_any a b w

set_option maxRecDepth 100000 in
theorem collide_nil (p lo : ByteArray) (w : World) : Calls Tryz.prog 101 #[.map none, .string p, .string lo] w fun e w' => e = .returned (.bool false) ∧ Below w.heap.size w w' := by
  have hrg := run_range_nilMap (P := Tryz.prog) w 89 9 120 Tryz.underlying89
  have hnx : ∀ ty, (Instr.next (.pointer (some ⟨w.heap.size, 0, none⟩)) false ty).run Tryz.prog (w.alloc (.mapIter none 0 #[] 0)) = _ := fun ty => run_next_nilMap w ty 0 0 #[]
  go_enter Tryz.func101, Tryz.ntmps101
  go_wp2
  refine wp_loop_rounds 1 ?_
  rw [rounds_succ]
  go_wp2
  go_ret
  exact ⟨rfl, (Below.refl _ w).alloc (Nat.le_refl _) _⟩

set_option maxRecDepth 100000 in
set_option maxHeartbeats 2000000 in
theorem collide_some (b : Nat) (L : FVs) (p lo : ByteArray) (w : World) (h : IsM w b L) :
    Calls Tryz.prog 101 #[.map (some b), .string p, .string lo] w fun e w' => e = .returned (.bool (blocked (drp lo.data.toList L) p.data.toList)) ∧ Below w.heap.size w w' := by
  have hlt := h.lt
  go_enter Tryz.func101, Tryz.ntmps101
  go_wp2_with (first
    | (at_range; refine wpList_range_m _ rfl _ rfl b L rfl h ?_; intro w0 hrg0 hg0 hs0)
    | go_in)
  go_frame
  go_loopw [7] (fun _ wr => ∃ rest : FVs, RngM wr b w.heap.size L rest ∧ Below w.heap.size w wr ∧ Hid (blocked (drp lo.data.toList L) p.data.toList = blocked (drp lo.data.toList rest) p.data.toList))
    (fun _ wr => wr.rangeLeft b w.heap.size)
  case atStart => exact ⟨L, hrg0, (Below.refl _ w).grown hg0 (Nat.le_refl _) (fun j hj => by cases hj), rfl⟩
  case round =>
    obtain ⟨rest, hrg, hbel, HB⟩ := hrel
    go_wp2_with (first
      | (at_next; refine wpList_next_m _ rfl _ rfl b w.heap.size L rest rfl hrg ?_ ?_)
      | go_in)
    · intro h0
      have HF : Hid (blocked (drp lo.data.toList L) p.data.toList = false) := by show _ = _; rw [HB.out, h0]; rfl
      clear h0
      go_wp2
      go_ret
      exact ⟨by rw [HF.out]; rfl, hbel⟩
    · intro q tx tm en w1 hq hql hrg1 hlt1 hg1 hs1 hen
      obtain ⟨_, _, _, _, hsr, _⟩ := id hrg
      have hb1 : Below w.heap.size w w1 := hbel.grown hg1 (by have := hbel.size; omega) (fun j hj => by cases hj; exact Nat.le_refl _)
      have HQ := Lib.hid hq
      have HS := Lib.hid hsr
      clear hq hsr hs1
      by_cases hne : q = lo
      · have e1 : (!q.toList == lo.toList) = false := str_ne_f hne
        have HN : Hid (blocked (drp lo.data.toList L) p.data.toList = blocked (drp lo.data.toList (drp q.data.toList rest)) p.data.toList) := by show _ = _; rw [HB.out, hne, blk_self]
        clear hne
        go_wp2
        go_roundw
        case rel => exact ⟨drp q.data.toList rest, hrg1, hb1, HN⟩
        case measure => exact hlt1
      · have e1 : (!q.toList == lo.toList) = true := str_ne_t hne
        have hne' : q.data.toList ≠ lo.data.toList := fun e => hne (by rw [← txt_toList q, ← txt_toList lo, e])
        clear hne
        cases h1 : wayB q p with
        | true =>
          have HT : Hid (blocked (drp lo.data.toList L) p.data.toList = true) := by show _ = _; rw [HB.out]; exact blk_yes HQ.out hne' (.inl h1)
          clear hne'
          go_wp2_with (go_at_call 115; refine (wayB_any _ _ _).mono ?_; rintro e w' ⟨rfl, rfl⟩)
          go_ret
          exact ⟨by rw [HT.out]; rfl, hb1⟩
        | false =>
          cases h2 : wayB p q with
          | true =>
            have HT : Hid (blocked (drp lo.data.toList L) p.data.toList = true) := by show _ = _; rw [HB.out]; exact blk_yes HQ.out hne' (.inr h2)
            clear hne'
            go_wp2_with (go_at_call 115; refine (wayB_any _ _ _).mono ?_; rintro e w' ⟨rfl, rfl⟩)
            go_ret
            exact ⟨by rw [HT.out]; rfl, hb1⟩
          | false =>
            have HN : Hid (blocked (drp lo.data.toList L) p.data.toList = blocked (drp lo.data.toList (drp q.data.toList rest)) p.data.toList) := by show _ = _; rw [HB.out, blk_other HS.out HQ.out hne' h1 h2]
            clear hne'
            go_wp2_with (go_at_call 115; refine (wayB_any _ _ _).mono ?_; rintro e w' ⟨rfl, rfl⟩)
            go_roundw
            case rel => exact ⟨drp q.data.toList rest, hrg1, hb1, HN⟩
            case measure => exact hlt1

theorem collide_any (m : Option Nat) (L : FVs) (p lo : ByteArray) (w : World) (h : MapV w m L) :
    Calls Tryz.prog 101 #[.map m, .string p, .string lo] w fun e w' => e = .returned (.bool (blocked (drp lo.data.toList L) p.data.toList)) ∧ Below w.heap.size w w' := by
  rcases h with ⟨rfl, rfl⟩ | ⟨b, rfl, h⟩
  · exact collide_nil p lo w
  · exact collide_some b L p lo w h

end Go.Proofs.YtchnbnmajagpjaaGreatDoor

namespace Go.Proofs.YtchnbnmajagpjaaGreatDoor
open Go.RowKit Go.Shelf Go.Maps

def fd (v : FV) : FD := (v.1, v.2.1)
def fb (v : FV) : FV := (v.1, v.2.1, none)
def strip (L : FVs) : Fs := L.map fun y => (y.1, fd y.2)
def bare (L : FVs) : FVs := L.map fun y => (y.1, fb y.2)
theorem strip_bare (L : FVs) : strip (bare L) = strip L := by unfold strip bare; rw [List.map_map]; rfl
theorem Srt.bare {L : FVs} (h : Srt L) : Srt (bare L) := h.map fb
theorem strip_length (L : FVs) : (strip L).length = L.length := List.length_map ..
theorem strip_put (p : BS) (v : FV) (L : FVs) : strip (put (p, v) L) = put (p, (v.1, v.2.1)) (strip L) := put_map fd _ _
theorem strip_drp (p : BS) (L : FVs) : strip (drp p L) = drp p (strip L) := drp_map fd _ _
theorem strip_look (L : FVs) (p : BS) : look (strip L) p = (look L p).map fd := look_map fd _ _
theorem strip_blocked (L : FVs) (p : BS) : blocked (strip L) p = blocked L p := blocked_map fd _ _
def usedV (L : FVs) : Nat := used (strip L)
theorem usedV_nil : usedV [] = 0 := rfl
theorem usedV_rest {rest : FVs} (h : Srt rest) {p : BS} {f : FV} (hm : (p, f) ∈ rest) : usedV rest = f.1.length + usedV (drp p rest) := by
  unfold usedV
  have := used_perm ((rest_perm h hm).map (fun y : BS × FV => (y.1, fd y.2)))
  exact this

/-- The cells of a tree. -/
def TreeC (w : World) (bt : Nat) (room clock : Int) (nm sm : Option Nat) (pv : Value) : Prop :=
  w.heap[bt]? = some (.cells #[.int .i64 room, .int .i64 clock, .map nm, .map sm, pv] 92 (0, 0))
theorem TreeC.cell {w : World} {bt : Nat} {room clock : Int} {nm sm : Option Nat} {pv : Value} (h : TreeC w bt room clock nm sm pv) :
    w.cell? ⟨bt, 0, none⟩ = some (.int .i64 room) ∧ w.cell? ⟨bt, 1, none⟩ = some (.int .i64 clock) ∧ w.cell? ⟨bt, 2, none⟩ = some (.map nm) ∧ w.cell? ⟨bt, 3, none⟩ = some (.map sm) ∧ w.cell? ⟨bt, 4, none⟩ = some pv := by
  unfold TreeC at h
  refine ⟨?_, ?_, ?_, ?_, ?_⟩ <;> (rw [Lib.cell_of_heap h]; rfl)
theorem TreeC.frozen {w : World} {bt : Nat} {room clock : Int} {nm sm : Option Nat} {pv : Value} (h : TreeC w bt room clock nm sm pv) (j : Nat) : w.frozen? ⟨bt, j, none⟩ = false := Lib.frozen_of_heap h j
theorem TreeC.lt {w : World} {bt : Nat} {room clock : Int} {nm sm : Option Nat} {pv : Value} (h : TreeC w bt room clock nm sm pv) : bt < w.heap.size := (Array.getElem?_eq_some_iff.1 h).1
theorem TreeC.kept {w w' : World} {bt : Nat} {room clock : Int} {nm sm : Option Nat} {pv : Value} (h : TreeC w bt room clock nm sm pv) (hk : w'.heap[bt]? = w.heap[bt]?) : TreeC w' bt room clock nm sm pv := hk.trans h
theorem TreeC.below {w w' : World} {bt B : Nat} {room clock : Int} {nm sm : Option Nat} {pv : Value} (h : TreeC w bt room clock nm sm pv) (hb : Below B w w') (hB : bt < B) : TreeC w' bt room clock nm sm pv := h.kept (hb.block bt hB)

set_option maxRecDepth 100000 in
theorem used_nil (bt : Nat) (w : World) {room clock : Int} {sm : Option Nat} {pv : Value} (ht : TreeC w bt room clock none sm pv) : Calls Tryz.prog 35 #[.pointer (some ⟨bt, 0, none⟩)] w fun e w' => e = .returned (.int .i64 0) ∧ Below w.heap.size w w' := by
  have hrg := run_range_nilMap (P := Tryz.prog) w 89 9 120 Tryz.underlying89
  have hnx : ∀ ty, (Instr.next (.pointer (some ⟨w.heap.size, 0, none⟩)) false ty).run Tryz.prog (w.alloc (.mapIter none 0 #[] 0)) = _ := fun ty => run_next_nilMap w ty 0 0 #[]
  obtain ⟨c0, c1, c2, c3, c4⟩ := ht.cell
  clear ht
  go_enter Tryz.func35, Tryz.ntmps35
  go_wp2
  refine wp_loop_rounds 1 ?_
  rw [rounds_succ]
  go_wp2
  go_ret
  exact ⟨rfl, (Below.refl _ w).alloc (Nat.le_refl _) _⟩

set_option maxRecDepth 100000 in
set_option maxHeartbeats 2000000 in
theorem used_some (bt b : Nat) (L : FVs) (w : World) {room clock : Int} {sm : Option Nat} {pv : Value} (ht : TreeC w bt room clock (some b) sm pv) (h : IsM w b L) (hu : usedV L < 4611686018427387904) :
    Calls Tryz.prog 35 #[.pointer (some ⟨bt, 0, none⟩)] w fun e w' => e = .returned (.int .i64 (usedV L : Nat)) ∧ Below w.heap.size w w' := by
  have hlt := h.lt
  obtain ⟨c0, c1, c2, c3, c4⟩ := ht.cell
  clear ht
  go_enter Tryz.func35, Tryz.ntmps35
  go_wp2_with (first
    | (at_range; refine wpList_range_m _ rfl _ rfl b L rfl h ?_; intro w0 hrg0 hg0 hs0)
    | go_in)
  go_frame
  go_loopw [3] (fun n wr => ∃ (rest : FVs) (k : Nat), n = .int .i64 k ∧ k + usedV rest = usedV L ∧ RngM wr b w.heap.size L rest ∧ Below w.heap.size w wr)
    (fun _ wr => wr.rangeLeft b w.heap.size)
  case atStart => exact ⟨L, 0, rfl, by omega, hrg0, (Below.refl _ w).grown hg0 (Nat.le_refl _) (fun j hj => by cases hj)⟩
  case round =>
    obtain ⟨rest, k, rfl, hk, hrg, hbel⟩ := hrel
    go_wp2_with (first
      | (at_next; refine wpList_next_m _ rfl _ rfl b w.heap.size L rest rfl hrg ?_ ?_)
      | go_in)
    · intro h0
      have hk' : k = usedV L := by rw [h0, usedV_nil] at hk; omega
      subst hk'
      clear h0 hk
      go_wp2
      go_ret
      exact ⟨rfl, hbel⟩
    · intro q tx tm en w1 hq hql hrg1 hlt1 hg1 hs1 hen
      obtain ⟨_, _, _, _, hsr, _⟩ := id hrg
      have hb1 : Below w.heap.size w w1 := hbel.grown hg1 (by have := hbel.size; omega) (fun j hj => by cases hj; exact Nat.le_refl _)
      have hur := usedV_rest hsr hq
      rw [size_list] at hur
      have hx : k + tx.size + usedV (drp q.data.toList rest) = usedV L := by omega
      have hrg2 : RngM (w1.alloc (.cells #[.string tx, .int .i64 tm, .pointer (endA en)] 120)) b w.heap.size L (drp q.data.toList rest) :=
        hrg1.kept (Below.heap_alloc _ _ _ hrg1.isM.lt) (Below.heap_alloc _ _ _ hrg1.lt)
      have hm2 : (w1.alloc (.cells #[.string tx, .int .i64 tm, .pointer (endA en)] 120)).rangeLeft b w.heap.size = w1.rangeLeft b w.heap.size := by
        unfold World.rangeLeft
        rw [Below.heap_alloc _ _ _ hrg1.isM.lt, Below.heap_alloc _ _ _ hrg1.lt]
      clear hq hsr hs1 hur hrg1
      go_wp2
      go_roundw
      case rel => exact ⟨drp q.data.toList rest, k + tx.size, by simp, hx, hrg2, hb1.alloc (by have := hb1.size; omega) _⟩
      case measure => rw [hm2]; exact hlt1

theorem used_any (bt : Nat) (m : Option Nat) (L : FVs) (w : World) {room clock : Int} {sm : Option Nat} {pv : Value} (ht : TreeC w bt room clock m sm pv) (h : MapV w m L) (hu : usedV L < 4611686018427387904) :
    Calls Tryz.prog 35 #[.pointer (some ⟨bt, 0, none⟩)] w fun e w' => e = .returned (.int .i64 (usedV L : Nat)) ∧ Below w.heap.size w w' := by
  rcases h with ⟨rfl, rfl⟩ | ⟨b, rfl, h⟩
  · exact used_nil bt w ht
  · exact used_some bt b L w ht h hu

/-! ### a copy -/
def Cloned (L rest M : FVs) : Prop := Srt M ∧ M.length + rest.length = L.length ∧ ∀ y, y ∈ M ↔ y ∈ bare L ∧ look rest y.1 = none
theorem Cloned.start (L : FVs) : Cloned L L [] := by
  refine ⟨Srt.nil, by simp, fun y => ⟨fun h => by simp at h, fun h => ?_⟩⟩
  obtain ⟨z, hz, rfl⟩ := List.mem_map.1 h.1
  exact absurd rfl (look_none.1 h.2 z hz)
theorem mem_bare {L : FVs} {p t : BS} {tm : Int} {en : Option Nat} (h : (p, t, tm, en) ∈ L) : (p, t, tm, none) ∈ bare L := List.mem_map.2 ⟨_, h, rfl⟩
theorem Cloned.done {L M : FVs} (h : Cloned L [] M) (hL : Srt L) : M = bare L := srt_ext h.1 hL.bare (fun z => by rw [h.2.2 z]; exact ⟨fun h => h.1, fun h => ⟨h, rfl⟩⟩)
theorem Cloned.step {L rest M : FVs} (h : Cloned L rest M) (hL : Srt L) (hr : Srt rest) (hsub : ∀ y ∈ rest, y ∈ L) {p t : BS} {tm : Int} {en : Option Nat} (hm : (p, t, tm, en) ∈ rest) : Cloned L (drp p rest) (put (p, t, tm, none) M) := by
  have hb := mem_bare (hsub _ hm)
  have hall : ∀ y, y ∈ put (p, t, tm, none) M ↔ y ∈ bare L ∧ look (drp p rest) y.1 = none := by
    intro y
    rw [mem_put, h.2.2 y]
    by_cases hy : y.1 = p
    · rw [hy, look_drp_same]
      constructor
      · rintro (rfl | h)
        · exact ⟨hb, rfl⟩
        · exact absurd rfl h.2
      · rintro ⟨h1, _⟩
        exact .inl (hL.bare.inj h1 hb hy)
    · rw [look_drp_other hr hy]
      constructor
      · rintro (rfl | h)
        · exact absurd rfl hy
        · exact h.1
      · exact fun h => .inr ⟨h, hy⟩
  have hs := h.1.put (p, t, tm, none)
  refine ⟨hs, ?_, hall⟩
  have hM : look M p = none := look_none.2 (fun y hy e => by
    have := ((h.2.2 y).1 hy).2
    rw [e, look_of_mem hr hm] at this
    cases this)
  have h1 := put_length h.1 p ((t, tm, none) : FV)
  rw [hM] at h1
  have h2 := (rest_perm hr hm).length_eq
  have h3 := h.2.1
  simp at h1 h2
  omega

theorem clone_nil (w : World) : Calls Tryz.prog 40 #[.map none] w fun e w' => e = .returned (.map (some w.heap.size)) ∧ IsM w' w.heap.size [] ∧ Below w.heap.size w w' := by
  have hmm := @run_makeMap Tryz.prog
  have hrg := run_range_nilMap (P := Tryz.prog) (w.alloc (.map #[] 0)) 89 9 120 Tryz.underlying89
  have hnx : ∀ ty, (Instr.next (.pointer (some ⟨(w.alloc (.map #[] 0)).heap.size, 0, none⟩)) false ty).run Tryz.prog ((w.alloc (.map #[] 0)).alloc (.mapIter none 0 #[] 0)) = _ := fun ty => run_next_nilMap _ ty 0 0 #[]
  have e1 : (w.alloc (.map #[] 0)).heap.size = w.heap.size + 1 := by simp
  rw [e1] at hrg hnx
  go_enter Tryz.func40, Tryz.ntmps40
  go_wp2
  refine wp_loop_rounds 1 ?_
  rw [rounds_succ]
  go_wp2
  go_ret
  exact ⟨rfl, (IsM.made w).kept (Below.heap_alloc _ _ _ (by simp)), ((Below.refl _ _).alloc (Nat.le_refl _) _).alloc (by simp) _⟩

set_option maxRecDepth 100000 in
set_option maxHeartbeats 2000000 in
theorem clone_some (b : Nat) (L : FVs) (w : World) (h : IsM w b L) (hn : L.length < 4611686018427387904) :
    Calls Tryz.prog 40 #[.map (some b)] w fun e w' => e = .returned (.map (some w.heap.size)) ∧ IsM w' w.heap.size (bare L) ∧ Below w.heap.size w w' := by
  have hmm := @run_makeMap Tryz.prog
  have hbl := h.lt
  have e1 : (w.alloc (.map #[] 0)).heap.size = w.heap.size + 1 := by simp
  have hI := IsM.made w
  have hA : IsM (w.alloc (.map #[] 0)) b L := h.kept (Below.heap_alloc _ _ _ hbl)
  go_enter Tryz.func40, Tryz.ntmps40
  go_wp2_with (first
    | (at_range; refine wpList_range_m _ rfl _ rfl b L rfl hA ?_; intro w0 hrg0 hg0 hs0)
    | go_in)
  go_frame
  rw [e1] at hrg0 hs0 ⊢
  go_loopw [4] (fun _ wr => ∃ rest M : FVs, RngM wr b (w.heap.size + 1) L rest ∧ IsM wr w.heap.size M ∧ Hid (Cloned L rest M) ∧ Below w.heap.size w wr)
    (fun _ wr => wr.rangeLeft b (w.heap.size + 1))
  case atStart =>
    exact ⟨L, [], hrg0, hI.kept (hg0.block _ (by simp) (by simp)), Cloned.start L, ((Below.refl _ _).alloc (Nat.le_refl _) _).grown hg0 (by simp) (fun j hj => by cases hj)⟩
  case round =>
    obtain ⟨rest, M, hrg, hM, HC, hnx⟩ := hrel
    go_wp2_with (first
      | (at_next; refine wpList_next_m _ rfl _ rfl b (w.heap.size + 1) L rest rfl hrg ?_ ?_)
      | go_in)
    · intro h0
      have hM' : IsM wr w.heap.size (bare L) := by
        have hd := HC.out
        rw [h0] at hd
        rw [← hd.done h.2]; exact hM
      clear h0 hM
      go_wp2
      go_ret
      exact ⟨rfl, hM', hnx⟩
    · intro q tx tm en w1 hq hql hrg1 hlt1 hg1 hs1 hen
      obtain ⟨_, _, _, _, hsr, hsub, _⟩ := id hrg
      have hM1 : IsM w1 w.heap.size M := hM.kept (hg1.block _ hM.lt (by simp))
      have HC1 := Lib.hid (HC.out.step h.2 hsr hsub hq)
      have hMl : M.length < maxLen := by have := HC.out.2.1; unfold maxLen; omega
      have hnx1 := hnx.grown hg1 hnx.size (fun j hj => by cases hj; exact Nat.le_succ _)
      have hrg2 : RngM (w1.alloc (.cells #[.string tx, .int .i64 tm, .pointer (endA en)] 120)) b (w.heap.size + 1) L (drp q.data.toList rest) :=
        hrg1.kept (Below.heap_alloc _ _ _ hrg1.isM.lt) (Below.heap_alloc _ _ _ hrg1.lt)
      have hm2 : (w1.alloc (.cells #[.string tx, .int .i64 tm, .pointer (endA en)] 120)).rangeLeft b (w.heap.size + 1) = w1.rangeLeft b (w.heap.size + 1) := by
        unfold World.rangeLeft
        rw [Below.heap_alloc _ _ _ hrg1.isM.lt, Below.heap_alloc _ _ _ hrg1.lt]
      have hM2 : IsM (w1.alloc (.cells #[.string tx, .int .i64 tm, .pointer (endA en)] 120)) w.heap.size M := hM1.kept (Below.heap_alloc _ _ _ hM1.lt)
      have hnx2 := hnx1.alloc (by have := hnx1.size; omega) (.cells #[.string tx, .int .i64 tm, .pointer (endA en)] 120)
      clear hq hsr hs1 hrg1 hM hM1 hsub
      go_wp2_with (first
        | (at_mapUpdate; refine wpList_store_m _ rfl _ _ _ rfl w.heap.size M rfl hM2 hMl q hql (tx.data.toList, tm, none) rfl rfl ?_; intro w2 hM3 hturn; go_frame)
        | go_in)
      have hb3 : w2.heap[b]? = _ := hturn.grown.block b (by have := hnx1.size; simp; omega) (fun e => by have := Option.some.inj e; omega)
      have hr3 : w2.heap[w.heap.size + 1]? = _ := hturn.grown.block (w.heap.size + 1) hrg2.lt (fun e => by have := Option.some.inj e; omega)
      have hrg3 := hrg2.kept hb3 hr3
      have hm3 : w2.rangeLeft b (w.heap.size + 1) = w1.rangeLeft b (w.heap.size + 1) := by rw [← hm2]; unfold World.rangeLeft; rw [hb3, hr3]
      go_roundw
      case rel => exact ⟨_, _, hrg3, hM3, HC1, hnx2.grown hturn.grown (by simp; have := hnx1.size; omega) (fun j hj => by cases hj; exact Nat.le_refl _)⟩
      case measure => rw [hm3]; exact hlt1

theorem clone_any (m : Option Nat) (L : FVs) (w : World) (h : MapV w m L) (hn : L.length < 4611686018427387904) :
    Calls Tryz.prog 40 #[.map m] w fun e w' => e = .returned (.map (some w.heap.size)) ∧ IsM w' w.heap.size (bare L) ∧ Below w.heap.size w w' := by
  rcases h with ⟨rfl, rfl⟩ | ⟨b, rfl, h⟩
  · exact clone_nil w
  · exact clone_some b L w h hn

end Go.Proofs.YtchnbnmajagpjaaGreatDoor

namespace Go.Proofs.YtchnbnmajagpjaaGreatDoor
open Go.RowKit Go.Shelf Go.Maps

theorem Turned.cells {X : Nat → Prop} {w w' : World} (h : Turned X w w') {b : Nat} {cs : Array Value} {t : TypeId} {fz : Nat × Nat} (hb : w.heap[b]? = some (.cells cs t fz)) (hx : ¬ X b) : w'.heap[b]? = some (.cells cs t fz) :=
  (h.block b (Array.getElem?_eq_some_iff.1 hb).1 hx).trans hb
theorem Turned.andThen {X Y : Nat → Prop} {A B C : World} (h : Turned X A B) (k : Turned Y B C) (hy : ∀ n, Y n → X n ∨ A.heap.size ≤ n) : Turned X A C :=
  ⟨k.os.trans h.os, k.tape.trans h.tape, k.output.trans h.output, Nat.le_trans h.size k.size, fun i hi hx =>
    (k.block i (Nat.lt_of_lt_of_le hi h.size) (fun hY => (hy i hY).elim hx (fun h => by omega))).trans (h.block i hi hx)⟩
theorem Turned.set {X : Nat → Prop} {A B : World} (h : Turned X A B) (a : Addr) (v : Value) (ha : X a.block ∨ A.heap.size ≤ a.block) : Turned X A (B.setCell a v) :=
  h.andThen (Turned.setCell (X := fun n => n = a.block) B a v rfl) (fun n hn => by rw [hn]; exact ha)

/-- How it stands in extended: the file's box, the answer's box, the builder. -/
def ExtAt (Z : Nat → Prop) (w : World) (x0 : Value) (fb rb e : Nat) (Z1 : Nat → Prop) (l : List UInt8) (wq : World) : Prop :=
  (∃ x1, wq.heap[fb]? = some (.cells #[x0, x1, .pointer (some ⟨e, 0, none⟩)] 120 (0, 0))) ∧ wq.heap[rb]? = some (.cells #[.string ⟨#[]⟩, .int .i64 0, .pointer none] 120 (0, 0)) ∧
  BuiltIn wq Z1 e l ∧ ¬ Z1 fb ∧ ¬ Z1 rb ∧ Turned Z w wq ∧ w.heap.size ≤ rb ∧ ∀ n, Z1 n → Z n ∨ w.heap.size ≤ n
theorem ExtAt.step {Z : Nat → Prop} {w : World} {x0 : Value} {fb rb e : Nat} {Z1 Z2 : Nat → Prop} {l l' : List UInt8} {wq w' : World} (h : ExtAt Z w x0 fb rb e Z1 l wq) (hT : Turned Z1 wq w') (hb : BuiltIn w' Z2 e l') (h2 : ∀ n, Z2 n → Z1 n ∨ wq.heap.size ≤ n) : ExtAt Z w x0 fb rb e Z2 l' w' := by
  obtain ⟨⟨x1, h3⟩, h4, h5, h6, h7, h8, h9, h10⟩ := h
  have lf := (Array.getElem?_eq_some_iff.1 h3).1
  have lr := (Array.getElem?_eq_some_iff.1 h4).1
  refine ⟨⟨x1, hT.cells h3 h6⟩, hT.cells h4 h7, hb, fun hz => ?_, fun hz => ?_, h8.andThen hT h10, h9, fun n hn => ?_⟩
  · rcases h2 _ hz with h | h
    · exact h6 h
    · omega
  · rcases h2 _ hz with h | h
    · exact h7 h
    · omega
  · rcases h2 n hn with h | h
    · exact h10 n h
    · have := h8.size; exact .inr (by omega)
theorem ExtAt.drew {Z : Nat → Prop} {w : World} {x0 : Value} {fb rb e : Nat} {Z1 : Nat → Prop} {l : List UInt8} {wq : World} (h : ExtAt Z w x0 fb rb e Z1 l wq) : ExtAt Z w x0 fb rb e Z1 l wq.drew :=
  h.step (Turned.drew _ _) h.2.2.1 (fun _ hn => .inl hn)
theorem ExtAt.cells {Z : Nat → Prop} {w : World} {x0 : Value} {fb rb e : Nat} {Z1 : Nat → Prop} {l : List UInt8} {wq : World} (h : ExtAt Z w x0 fb rb e Z1 l wq) :
    wq.cell? ⟨fb, 0, none⟩ = some x0 ∧ wq.cell? ⟨fb, 2, none⟩ = some (.pointer (some ⟨e, 0, none⟩)) ∧ wq.cell? ⟨rb, 0, none⟩ = some (.string ⟨#[]⟩) ∧ wq.cell? ⟨rb, 1, none⟩ = some (.int .i64 0) ∧ wq.cell? ⟨rb, 2, none⟩ = some (.pointer none) ∧
    wq.frozen? ⟨rb, 0, none⟩ = false ∧ wq.frozen? ⟨rb, 1, none⟩ = false ∧ wq.frozen? ⟨rb, 2, none⟩ = false := by
  obtain ⟨⟨x1, h3⟩, h4, _⟩ := h
  refine ⟨?_, ?_, ?_, ?_, ?_, Lib.frozen_of_heap h4 0, Lib.frozen_of_heap h4 1, Lib.frozen_of_heap h4 2⟩
  · rw [Lib.cell_of_heap h3]; rfl
  · rw [Lib.cell_of_heap h3]; rfl
  · rw [Lib.cell_of_heap h4]; rfl
  · rw [Lib.cell_of_heap h4]; rfl
  · rw [Lib.cell_of_heap h4]; rfl
theorem ExtAt.write {Z : Nat → Prop} {w : World} {x0 : Value} {fb rb e : Nat} {Z1 : Nat → Prop} {l : List UInt8} {wq : World} (h : ExtAt Z w x0 fb rb e Z1 l wq) (s : ByteArray) (hl : l.length + s.size ≤ 1099511627776) :
    Calls Tryz.prog 71 #[.pointer (some ⟨e, 0, none⟩), .string s] wq fun r w' => r = .returned (.tuple #[.int .i64 s.size, .nilIface]) ∧ ∃ Z2, ExtAt Z w x0 fb rb e Z2 (l ++ s.data.toList) w' ∧ ∀ n, Z2 n → Z1 n ∨ wq.heap.size ≤ n :=
  (write_any e Z1 _ (.inr rfl) l s wq h.2.2.1 hl).mono (fun _ _ hw => ⟨hw.1, _, h.step hw.2.2 hw.2.1 (fun _ hn => hn), fun _ hn => hn⟩)
theorem ExtAt.str {Z : Nat → Prop} {w : World} {x0 : Value} {fb rb e : Nat} {Z1 : Nat → Prop} {l : List UInt8} {wq : World} (h : ExtAt Z w x0 fb rb e Z1 l wq) (hl : l.length ≤ 1099511627776) :
    Calls Tryz.prog 72 #[.pointer (some ⟨e, 0, none⟩)] wq fun r w' => r = .returned (.string (txt l)) ∧ ExtAt Z w x0 fb rb e Z1 l w' :=
  (string_any e Z1 l wq h.2.2.1 hl).mono (fun _ _ hw => ⟨hw.1, h.step hw.2.2 hw.2.1 (fun _ hn => .inl hn)⟩)
/-- Behind the answer's stores. -/
theorem ExtAt.done {Z : Nat → Prop} {w : World} {x0 : Value} {fb rb e : Nat} {Z1 : Nat → Prop} {l : List UInt8} {wq : World} (h : ExtAt Z w x0 fb rb e Z1 l wq) (a b c : Value) :
    BuiltIn (((wq.setCell ⟨rb, 0, none⟩ a).setCell ⟨rb, 1, none⟩ b).setCell ⟨rb, 2, none⟩ c) Z1 e l ∧ Turned Z w (((wq.setCell ⟨rb, 0, none⟩ a).setCell ⟨rb, 1, none⟩ b).setCell ⟨rb, 2, none⟩ c) ∧
      (((wq.setCell ⟨rb, 0, none⟩ a).setCell ⟨rb, 1, none⟩ b).setCell ⟨rb, 2, none⟩ c).cell? ⟨rb, 0, none⟩ = some a ∧ (((wq.setCell ⟨rb, 0, none⟩ a).setCell ⟨rb, 1, none⟩ b).setCell ⟨rb, 2, none⟩ c).cell? ⟨rb, 1, none⟩ = some b ∧ (((wq.setCell ⟨rb, 0, none⟩ a).setCell ⟨rb, 1, none⟩ b).setCell ⟨rb, 2, none⟩ c).cell? ⟨rb, 2, none⟩ = some c := by
  obtain ⟨h3, h4, h5, h6, h7, h8, h9, h10⟩ := h
  have hh : (((wq.setCell ⟨rb, 0, none⟩ a).setCell ⟨rb, 1, none⟩ b).setCell ⟨rb, 2, none⟩ c).heap[rb]? = some (.cells #[a, b, c] 120 (0, 0)) := by simp [World.setCell, Array.getElem?_modify, h4]
  refine ⟨?_, ((h8.set _ _ (.inr h9)).set _ _ (.inr h9)).set _ _ (.inr h9), by rw [Lib.cell_of_heap hh]; rfl, by rw [Lib.cell_of_heap hh]; rfl, by rw [Lib.cell_of_heap hh]; rfl⟩
  have hT : Turned (fun n => n = rb) wq (((wq.setCell ⟨rb, 0, none⟩ a).setCell ⟨rb, 1, none⟩ b).setCell ⟨rb, 2, none⟩ c) :=
    ((Turned.setCell (X := fun n => n = rb) wq ⟨rb, 0, none⟩ a rfl).trans (Turned.setCell (X := fun n => n = rb) _ ⟨rb, 1, none⟩ b rfl)).trans (Turned.setCell (X := fun n => n = rb) _ ⟨rb, 2, none⟩ c rfl)
  exact h5.kept hT (fun n hn e => h7 (e ▸ hn)) (fun _ hn _ => hn)

set_option maxRecDepth 100000 in
set_option maxHeartbeats 4000000 in
theorem extended_some (e : Nat) (Z : Nat → Prop) (tx s : ByteArray) (tm t2 : Int) (w : World) (hZ : ∀ n, Z n → n < w.heap.size) (h : BuiltIn w Z e tx.data.toList) (hlen : tx.size + s.size ≤ 1099511627776) :
    Calls Tryz.prog 65 #[.agg #[.string tx, .int .i64 tm, .pointer (some ⟨e, 0, none⟩)], .string s, .int .i64 t2] w fun r w' =>
      r = .returned (.agg #[.string (txt (tx.data.toList ++ s.data.toList)), .int .i64 t2, .pointer (some ⟨e, 0, none⟩)]) ∧ ∃ Z2, BuiltIn w' Z2 e (tx.data.toList ++ s.data.toList) ∧ Turned Z w w' ∧ ∀ n, Z2 n → Z n ∨ w.heap.size ≤ n := by
  have HA : ExtAt Z w (.string tx) w.heap.size (w.heap.size + 1) e Z tx.data.toList ((w.alloc (.cells #[.string tx, .int .i64 tm, .pointer (some ⟨e, 0, none⟩)] 120)).alloc (.cells #[.string ⟨#[]⟩, .int .i64 0, .pointer none] 120)) := by
    refine ⟨⟨.int .i64 tm, (Below.heap_alloc _ _ _ (by simp)).trans (World.alloc_heap_new w _)⟩, ?_, ?_, fun hn => ?_, fun hn => ?_, (Turned.alloc Z w _).trans (Turned.alloc Z _ _), by omega, fun _ hn => .inl hn⟩
    · have := World.alloc_heap_new (w.alloc (.cells #[.string tx, .int .i64 tm, .pointer (some ⟨e, 0, none⟩)] 120)) (.cells #[.string ⟨#[]⟩, .int .i64 0, .pointer none] 120); rwa [World.size_alloc] at this
    · exact h.kept ((Turned.alloc (fun _ => False) w _).trans (Turned.alloc _ _ _)) (fun _ _ => id) (fun _ hn _ => hn)
    · have := hZ _ hn; omega
    · have := hZ _ hn; omega
  have HW := Lib.hid (HA.write s (by rw [size_list]; exact hlen))
  have hl : (tx.data.toList ++ s.data.toList).length ≤ 1099511627776 := by rw [List.length_append, size_list, size_list]; exact hlen
  generalize tx.data.toList ++ s.data.toList = ts at HW hl ⊢
  clear h HA
  go_enter Tryz.func65, Tryz.ntmps65
  go_wp2_with (go_at_call 71; refine (HW.out).mono ?_)
  rintro r w1 ⟨rfl, Z2, HA2, hz2⟩
  have HS : Hid (∀ wq, ExtAt Z w (.string tx) w.heap.size (w.heap.size + 1) e Z2 ts wq → Calls Tryz.prog 72 #[.pointer (some ⟨e, 0, none⟩)] wq fun r w' => r = .returned (.string (txt ts)) ∧ ExtAt Z w (.string tx) w.heap.size (w.heap.size + 1) e Z2 ts w') := fun wq hq => hq.str hl
  have HZ : Hid (∀ n, Z2 n → Z n ∨ w.heap.size ≤ n) := HA2.2.2.2.2.2.2.2
  obtain ⟨c0, c1, c2, c3, c4, d0, d1, d2⟩ := HA2.drew.cells
  clear HW hz2
  go_wp2
  go_region_with (go_at_call 72; refine (HS.out _ (by first | assumption | exact HA2.drew)).mono ?_; rintro r w2 ⟨rfl, HA3⟩; obtain ⟨g0, g1, g2, g3, g4, k0, k1, k2⟩ := id HA3.cells)
  all_goals (
    have HD := HA3.done (.string (txt ts)) (.int .i64 t2) (.pointer (some ⟨e, 0, none⟩))
    clear HA3 g0 g1 g2 g3 g4 k0 k1 k2 c0 c1 c2 c3 c4 d0 d1 d2
    generalize (((w2.setCell ⟨w.heap.size + 1, 0, none⟩ (.string (txt ts))).setCell ⟨w.heap.size + 1, 1, none⟩ (.int .i64 t2)).setCell ⟨w.heap.size + 1, 2, none⟩ (.pointer (some ⟨e, 0, none⟩))) = w3 at HD ⊢
    obtain ⟨h1, h2, q0, q1, q2⟩ := HD
    have H1 := Lib.hid h1
    clear h1
    go_wp2
    exact bodyPost_ret (v := .agg #[.string (txt ts), .int .i64 t2, .pointer (some ⟨e, 0, none⟩)]) (by simp [results, Tryz.results65, go_sem, q0, q1, q2]) rfl ⟨rfl, Z2, H1.out, h2, HZ.out⟩)

set_option maxRecDepth 100000 in
set_option maxHeartbeats 4000000 in
theorem extended_none (tx s : ByteArray) (tm t2 : Int) (w : World) (hlen : tx.size + s.size ≤ 1099511627776) :
    Calls Tryz.prog 65 #[.agg #[.string tx, .int .i64 tm, .pointer none], .string s, .int .i64 t2] w fun r w' =>
      ∃ e, r = .returned (.agg #[.string (txt (tx.data.toList ++ s.data.toList)), .int .i64 t2, .pointer (some ⟨e, 0, none⟩)]) ∧ w.heap.size ≤ e ∧ ∃ Z2, BuiltIn w' Z2 e (tx.data.toList ++ s.data.toList) ∧ Turned (fun _ => False) w w' ∧ ∀ n, Z2 n → w.heap.size ≤ n := by
  have hl : (tx.data.toList ++ s.data.toList).length ≤ 1099511627776 := by rw [List.length_append, size_list, size_list]; exact hlen
  obtain ⟨ts, hts⟩ : ∃ ts, ts = tx.data.toList ++ s.data.toList := ⟨_, rfl⟩
  have HTS := Lib.hid hts
  rw [← hts] at hl ⊢
  clear hts
  have HW : Hid (Calls Tryz.prog 71 #[.pointer (some ⟨w.heap.size + 1 + 1, 0, none⟩), .string tx] (((w.alloc (.cells #[.string tx, .int .i64 tm, .pointer (some ⟨w.heap.size + 1 + 1, 0, none⟩)] 120)).alloc (.cells #[.string ⟨#[]⟩, .int .i64 0, .pointer none] 120)).alloc (.cells #[.pointer none, .slice none 0 0] 128))
      fun r w1 => r = .returned (.tuple #[.int .i64 tx.size, .nilIface]) ∧ ∃ Z2, ExtAt (fun _ => False) w (.string tx) w.heap.size (w.heap.size + 1) (w.heap.size + 1 + 1) Z2 tx.data.toList w1) := by
    obtain ⟨W, hW⟩ : ∃ W, W = (w.alloc (.cells #[.string tx, .int .i64 tm, .pointer (some ⟨w.heap.size + 1 + 1, 0, none⟩)] 120)).alloc (.cells #[.string ⟨#[]⟩, .int .i64 0, .pointer none] 120) := ⟨_, rfl⟩
    have hs : W.heap.size = w.heap.size + 1 + 1 := by rw [hW]; simp
    have hf : W.heap[w.heap.size]? = some (.cells #[.string tx, .int .i64 tm, .pointer (some ⟨w.heap.size + 1 + 1, 0, none⟩)] 120 (0, 0)) := by rw [hW]; exact (Below.heap_alloc _ _ _ (by simp)).trans (World.alloc_heap_new w _)
    have hr : W.heap[w.heap.size + 1]? = some (.cells #[.string ⟨#[]⟩, .int .i64 0, .pointer none] 120 (0, 0)) := by
      rw [hW]
      have := World.alloc_heap_new (w.alloc (.cells #[.string tx, .int .i64 tm, .pointer (some ⟨w.heap.size + 1 + 1, 0, none⟩)] 120)) (.cells #[.string ⟨#[]⟩, .int .i64 0, .pointer none] 120)
      rwa [World.size_alloc] at this
    have hT : Turned (fun _ => False) w W := by rw [hW]; exact (Turned.alloc _ w _).trans (Turned.alloc _ _ _)
    rw [← hW, ← hs]
    have hB := BuiltP.fresh W
    have hT2 : Turned (fun _ => False) w (W.alloc (.cells #[.pointer none, .slice none 0 0] 128)) := hT.trans (Turned.alloc _ _ _)
    have hf2 := (Turned.alloc (fun _ => False) W (.cells #[.pointer none, .slice none 0 0] 128)).cells hf id
    have hr2 := (Turned.alloc (fun _ => False) W (.cells #[.pointer none, .slice none 0 0] 128)).cells hr id
    have hs2 : (W.alloc (.cells #[.pointer none, .slice none 0 0] 128)).heap.size = W.heap.size + 1 := by simp
    show Calls _ _ _ _ _
    refine (write_any W.heap.size (fun n => n = W.heap.size) (.pointer none) (.inl rfl) [] tx _ hB (by simp; omega)).mono ?_
    rintro r w1 ⟨rfl, hb, ht⟩
    refine ⟨rfl, fun n => n = W.heap.size ∨ (W.alloc (.cells #[.pointer none, .slice none 0 0] 128)).heap.size ≤ n, ⟨.int .i64 tm, by rw [hs]; exact ht.cells hf2 (by omega)⟩, ht.cells hr2 (by omega), hb, ?_, ?_, hT2.andThen ht (fun n hn => .inr (by omega)), by omega, fun n hn => .inr (by omega)⟩
    · rw [hs2]; omega
    · rw [hs2]; omega
  go_enter Tryz.func65, Tryz.ntmps65
  go_wp2_with (go_at_call 71; refine (HW.out).mono ?_)
  rintro r w1 ⟨rfl, Z2, HA2⟩
  have HW2 := Lib.hid (HA2.write s (by rw [size_list]; exact hlen))
  obtain ⟨c0, c1, c2, c3, c4, d0, d1, d2⟩ := HA2.cells
  rw [← HTS.out] at HW2
  clear HW HA2
  go_wp2_with (go_at_call 71; refine (HW2.out).mono ?_)
  rintro r w1b ⟨rfl, Z3, HA2, hz2⟩
  have HS : Hid (∀ wq, ExtAt (fun _ => False) w (.string tx) w.heap.size (w.heap.size + 1) (w.heap.size + 1 + 1) Z3 ts wq → Calls Tryz.prog 72 #[.pointer (some ⟨w.heap.size + 1 + 1, 0, none⟩)] wq fun r w' => r = .returned (.string (txt ts)) ∧ ExtAt (fun _ => False) w (.string tx) w.heap.size (w.heap.size + 1) (w.heap.size + 1 + 1) Z3 ts w') := fun wq hq => hq.str hl
  have HZ : Hid (∀ n, Z3 n → False ∨ w.heap.size ≤ n) := HA2.2.2.2.2.2.2.2
  clear c0 c1 c2 c3 c4 d0 d1 d2
  obtain ⟨c0, c1, c2, c3, c4, d0, d1, d2⟩ := HA2.drew.cells
  clear HW2 hz2
  go_wp2
  go_region_with (go_at_call 72; refine (HS.out _ (by first | assumption | exact HA2.drew)).mono ?_; rintro r w2 ⟨rfl, HA3⟩; obtain ⟨g0, g1, g2, g3, g4, k0, k1, k2⟩ := id HA3.cells)
  all_goals (
    have HD := HA3.done (.string (txt ts)) (.int .i64 t2) (.pointer (some ⟨w.heap.size + 1 + 1, 0, none⟩))
    clear HA3 g0 g1 g2 g3 g4 k0 k1 k2 c0 c1 c2 c3 c4 d0 d1 d2
    generalize (((w2.setCell ⟨w.heap.size + 1, 0, none⟩ (.string (txt ts))).setCell ⟨w.heap.size + 1, 1, none⟩ (.int .i64 t2)).setCell ⟨w.heap.size + 1, 2, none⟩ (.pointer (some ⟨w.heap.size + 1 + 1, 0, none⟩))) = w3 at HD ⊢
    obtain ⟨h1, h2, q0, q1, q2⟩ := HD
    have H1 := Lib.hid h1
    clear h1
    go_wp2
    exact bodyPost_ret (v := .agg #[.string (txt ts), .int .i64 t2, .pointer (some ⟨w.heap.size + 1 + 1, 0, none⟩)]) (by simp [results, Tryz.results65, go_sem, q0, q1, q2]) rfl ⟨w.heap.size + 1 + 1, rfl, by omega, Z3, H1.out, h2, fun n hn => (HZ.out n hn).elim (fun h => h.elim) id⟩)

end Go.Proofs.YtchnbnmajagpjaaGreatDoor
