/-
  What holds of a tree's files and changes behind any acts: no program. No condition.
-/
import Derived.Test.YtginlknlkbhgaaaFCrash2
namespace Go.Proofs.Ytginlknlkbhgaaa

/-- Files that may be there. -/
structure FsOk (room : Int) (l : Fs) : Prop where
  srt : Srt l
  len : l.length ≤ 200
  fit : (used l : Int) ≤ room
  short : ∀ y ∈ l, y.1.length ≤ 100
  texts : ∀ y ∈ l, y.2.1.length ≤ 16777216
  ways : ∀ y ∈ l, blocked l y.1 = false
theorem FsOk.nil {room : Int} (h : 0 ≤ room) : FsOk room [] := ⟨Srt.nil, by simp, by simpa [used] using h, by simp, by simp, by simp⟩
/-- A change that fits. -/
structure ChOk (l : Fs) (c : Ch) : Prop where
  kind : c.kind ≤ 3
  path : c.path.length ≤ 100
  arg : c.arg.length ≤ 16777216
  more : c.kind = 1 → (textOf l c.path).length + c.arg.length ≤ 16777216
  there : c.kind = 3 → (look l c.path).isSome = true
theorem ChOk.fits {l : Fs} {c : Ch} (h : ChOk l c) : Fits l c := ⟨h.kind, by have := h.path; omega, by have := h.arg; omega, fun hk => by have := h.more hk; omega, h.there⟩
def Run (room : Int) : Fs → List Ch → Prop
  | l, [] => FsOk room l
  | l, c :: r => FsOk room l ∧ ChOk l c ∧ Run room (after l c) r
theorem Run.head {room : Int} {l : Fs} : ∀ {cs : List Ch}, Run room l cs → FsOk room l
  | [], h => h
  | _ :: _, h => h.1
theorem Run.take {room : Int} : ∀ {l : Fs} {cs : List Ch}, Run room l cs → ∀ k, FsOk room ((cs.take k).foldl after l)
  | _, [], h, k => by simpa using (show FsOk room _ from h)
  | _, _ :: _, h, 0 => h.1
  | _, _ :: _, h, k + 1 => Run.take (cs := _) h.2.2 k
theorem Run.all {room : Int} {l : Fs} {cs : List Ch} (h : Run room l cs) : FsOk room (cs.foldl after l) := by
  have := h.take cs.length
  rwa [List.take_length] at this
theorem Run.at {room : Int} : ∀ {l : Fs} {cs : List Ch}, Run room l cs → ∀ k c, cs[k]? = some c → ChOk ((cs.take k).foldl after l) c
  | _, [], _, k, c, hk => by simp at hk
  | _, c' :: _, h, 0, c, hk => by
    have : c' = c := by simpa using hk
    rw [← this]; exact h.2.1
  | _, _ :: _, h, k + 1, c, hk => Run.at h.2.2 k c (by simpa using hk)
theorem Run.snoc {room : Int} : ∀ {l : Fs} {cs : List Ch} {c : Ch}, Run room l cs → ChOk (cs.foldl after l) c → FsOk room (after (cs.foldl after l) c) → Run room l (cs ++ [c])
  | _, [], _, h, h1, h2 => ⟨h, h1, h2⟩
  | _, _ :: _, _, h, h1, h2 => ⟨h.1, h.2.1, Run.snoc h.2.2 h1 h2⟩
theorem Run.goes {room : Int} : ∀ {l : Fs} {cs : List Ch}, Run room l cs → Goes l cs
  | _, [], h => FsOk.len h
  | _, _ :: _, h => ⟨h.1.len, h.2.1.fits, Run.goes h.2.2⟩

/-- A tree's invariant; n acts were done. -/
structure Good (room : Int) (n : Nat) (S : St) : Prop where
  room0 : 1 ≤ room
  room1 : room ≤ 1073741824
  clock0 : 0 ≤ S.clock
  clock1 : S.clock ≤ n
  pends : S.pend.length ≤ n
  run : Run room S.last S.pend
  now : S.pend.foldl after S.last = S.now
theorem Good.files {room : Int} {n : Nat} {S : St} (h : Good room n S) : FsOk room S.now := by rw [← h.now]; exact h.run.all
theorem Good.new {room : Int} (h0 : 1 ≤ room) (h1 : room ≤ 1073741824) : Good room 0 (0, [], [], []) :=
  ⟨h0, h1, Int.le_refl _, Int.le_refl _, Nat.le_refl _, FsOk.nil (by omega), rfl⟩
theorem Good.more {room : Int} {n m : Nat} {S : St} (h : Good room n S) (hm : n ≤ m) : Good room m S := ⟨h.room0, h.room1, h.clock0, by have := h.clock1; omega, by have := h.pends; omega, h.run, h.now⟩
theorem Good.ok {room : Int} {n : Nat} {S : St} (h : Good room n S) (hn : n < 536870912) : OkS room S :=
  ⟨by have := h.room0; omega, by have := h.room1; omega, h.clock0, by have := h.clock1; omega, h.files.len, by have := h.files.fit; have := h.room1; omega, by have := h.pends; omega⟩
theorem Good.did {room : Int} {n : Nat} {S : St} (h : Good room n S) (k : Nat) (p a : BS) (hc : ChOk S.now (k, p, a, S.clock + 1)) (hf : FsOk room (after S.now (k, p, a, S.clock + 1))) : Good room (n + 1) (doSt S k p a) := by
  refine ⟨h.room0, h.room1, by show 0 ≤ S.clock + 1; have := h.clock0; omega, by show S.clock + 1 ≤ _; have := h.clock1; omega, by show (S.pend ++ [_]).length ≤ _; rw [List.length_append]; have := h.pends; simp; omega, Run.snoc (l := S.last) (cs := S.pend) h.run (by rw [h.now]; exact hc) (by rw [h.now]; exact hf), ?_⟩
  show (S.pend ++ [_]).foldl after S.last = _
  rw [List.foldl_append, h.now]
  rfl

theorem way_sym {l : Fs} {p : BS} (h : blocked l p = false) : ∀ y ∈ l, way y.1 p = false ∧ way p y.1 = false := by
  intro y hy
  unfold blocked at h
  have := (List.any_eq_false.1 h) y hy
  simpa using this
theorem blk_of {l : Fs} {p : BS} (h : ∀ y ∈ l, way y.1 p = false ∧ way p y.1 = false) : blocked l p = false := by
  unfold blocked
  rw [List.any_eq_false]
  intro y hy
  have := h y hy
  simp [this]
theorem FsOk.put {room : Int} {l : Fs} {p t : BS} {m : Int} (h : FsOk room l) (hp : p.length ≤ 100) (ht : t.length ≤ 16777216) (hb : blocked l p = false) (hu : (used l : Int) - ((textOf l p).length : Int) + (t.length : Int) ≤ room) (hl : l.length < 200 ∨ (look l p).isSome = true) : FsOk room (put (p, t, m) l) := by
  have hs := way_sym hb
  refine ⟨h.srt.put _, ?_, ?_, fun y hy => ?_, fun y hy => ?_, fun y hy => blk_of fun z hz => ?_⟩
  · rw [put_length h.srt]
    have := h.len
    split
    · omega
    · rename_i hh
      rcases hl with hl | hl
      · omega
      · exact absurd hl hh
  · have := used_put h.srt p (t, m)
    simp only at this
    omega
  · rcases mem_put.1 hy with rfl | hy
    · exact hp
    · exact h.short y hy.1
  · rcases mem_put.1 hy with rfl | hy
    · exact ht
    · exact h.texts y hy.1
  · rcases mem_put.1 hy with rfl | hy <;> rcases mem_put.1 hz with rfl | hz
    · exact ⟨way_self _, way_self _⟩
    · exact hs z hz.1
    · exact ⟨(hs y hy.1).2, (hs y hy.1).1⟩
    · exact way_sym (h.ways y hy.1) z hz.1
theorem drp_le (p : BS) (l : Fs) : (drp p l).length ≤ l.length := List.length_filter_le _ _
theorem used_drp {l : Fs} (h : Srt l) (p : BS) : used (drp p l) + (textOf l p).length = used l := by
  unfold textOf
  cases hl : look l p with
  | none => rw [drp_none hl]; simp
  | some u => have := used_perm (drp_perm h hl); rw [used_cons] at this; simp at this ⊢; omega
theorem FsOk.drp {room : Int} {l : Fs} (h : FsOk room l) (p : BS) : FsOk room (drp p l) := by
  refine ⟨h.srt.drp _, by have := drp_le p l; have := h.len; omega, ?_, fun y hy => h.short y (mem_drp.1 hy).1, fun y hy => h.texts y (mem_drp.1 hy).1, fun y hy => blk_of fun z hz => way_sym (h.ways y (mem_drp.1 hy).1) z (mem_drp.1 hz).1⟩
  have := used_drp h.srt p
  have := h.fit
  omega

theorem FsOk.rename {room : Int} {l : Fs} {p q t : BS} {m : Int} (h : FsOk room l) (hl : look l p = some (t, m)) (hq : q.length ≤ 100) (hb : blocked (Proofs.Ytginlknlkbhgaaa.drp p l) q = false) : FsOk room (Proofs.Ytginlknlkbhgaaa.put (q, t, m) (Proofs.Ytginlknlkbhgaaa.drp p l)) := by
  have hd := h.drp p
  have ht := h.texts _ (look_mem hl)
  refine hd.put hq ht hb ?_ (.inl ?_)
  · have h1 := used_drp h.srt p
    have h2 := h.fit
    have h3 : textOf l p = t := by unfold textOf; rw [hl]; rfl
    rw [h3] at h1
    omega
  · have h1 := (drp_perm h.srt hl).length_eq
    have h2 := h.len
    rw [List.length_cons] at h1
    omega

/-! ### the acts -/
theorem Good.opW {room : Int} {n : Nat} {S : St} (h : Good room n S) (p s : BS) : Good room (n + 1) (opW room S p s).2 := by
  unfold Proofs.Ytginlknlkbhgaaa.opW
  by_cases hc : checkC room S.now p s.length = 0
  · rw [if_pos hc]
    obtain ⟨k1, k2, k3, k4, k5⟩ := check_ok hc
    have hp := path_short k1
    refine h.did 0 p s ⟨by simp [Ch.kind], hp, k2, fun hk => by simp [Ch.kind] at hk, fun hk => by simp [Ch.kind] at hk⟩ ?_
    rw [after0]
    exact h.files.put hp k2 k3 k4 k5
  · rw [if_neg hc]; exact h.more (Nat.le_succ _)
theorem Good.opA {room : Int} {n : Nat} {S : St} (h : Good room n S) (p s : BS) : Good room (n + 1) (opA room S p s).2 := by
  unfold Proofs.Ytginlknlkbhgaaa.opA
  by_cases hc : checkC room S.now p ((textOf S.now p).length + s.length) = 0
  · rw [if_pos hc]
    obtain ⟨k1, k2, k3, k4, k5⟩ := check_ok hc
    have hp := path_short k1
    refine h.did 1 p s ⟨by simp [Ch.kind], hp, by simp only [Ch.arg]; omega, fun hk => by simpa only [Ch.path, Ch.arg] using k2, fun hk => by simp [Ch.kind] at hk⟩ ?_
    rw [after1]
    exact h.files.put hp (by rw [List.length_append]; exact k2) k3 (by rw [List.length_append]; exact k4) k5
  · rw [if_neg hc]; exact h.more (Nat.le_succ _)
theorem Good.opR {room : Int} {n : Nat} {S : St} (h : Good room n S) (p : BS) : Good room (n + 1) (opR S p).2 := by
  unfold Proofs.Ytginlknlkbhgaaa.opR
  cases hl : (look S.now p).isSome with
  | false => rw [if_neg (by simp)]; exact h.more (Nat.le_succ _)
  | true =>
    rw [if_pos rfl]
    obtain ⟨v, hv⟩ := Option.isSome_iff_exists.1 hl
    have hps := h.files.short _ (look_mem hv)
    refine h.did 2 p [] ⟨by simp [Ch.kind], hps, by simp [Ch.arg], fun hk => by simp [Ch.kind] at hk, fun hk => by simp [Ch.kind] at hk⟩ ?_
    rw [after2]
    exact h.files.drp p
theorem after3_hitS {l : Fs} {p a : BS} {t : Int} {v : FD} (h : look l p = some v) : after l (3, p, a, t) = put (a, v) (drp p l) := by
  unfold after
  rw [if_neg (show ¬ (3 : Nat) = 0 by decide), if_neg (show ¬ (3 : Nat) = 1 by decide), if_neg (show ¬ (3 : Nat) = 2 by decide)]
  show (match look l p with | none => l | some v => put (a, v) (drp p l)) = _
  rw [h]
theorem Good.opN {room : Int} {n : Nat} {S : St} (h : Good room n S) (p q : BS) : Good room (n + 1) (opN S p q).2 := by
  unfold Proofs.Ytginlknlkbhgaaa.opN
  cases hl : (look S.now p).isSome with
  | false => rw [if_pos rfl]; exact h.more (Nat.le_succ _)
  | true =>
    rw [if_neg (by simp)]
    cases hq : pathB q with
    | false => rw [if_pos rfl]; exact h.more (Nat.le_succ _)
    | true =>
      rw [if_neg (by simp)]
      by_cases he : p = q
      · rw [if_pos he]; exact h.more (Nat.le_succ _)
      · rw [if_neg he]
        cases hb : blocked (Proofs.Ytginlknlkbhgaaa.drp p S.now) q with
        | true => rw [if_pos rfl]; exact h.more (Nat.le_succ _)
        | false =>
          rw [if_neg (by simp)]
          obtain ⟨⟨t, m⟩, hv⟩ := Option.isSome_iff_exists.1 hl
          have hqs := path_short hq
          have hps := h.files.short _ (look_mem hv)
          refine h.did 3 p q ⟨by simp [Ch.kind], hps, by simp only [Ch.arg]; omega, fun hk => by simp [Ch.kind] at hk, fun _ => hl⟩ ?_
          rw [after3_hitS hv]
          exact h.files.rename hv hqs hb
theorem Good.opS {room : Int} {n : Nat} {S : St} (h : Good room n S) : Good room n (opS S) := ⟨h.room0, h.room1, h.clock0, h.clock1, Nat.zero_le _, h.files, rfl⟩

/-- A torn change leaves files that may be there. -/
theorem FsOk.torn {room : Int} {l : Fs} {c : Ch} (h : FsOk room l) (hc : ChOk l c) (hk : c.kind ≤ 1) (ha : FsOk room (after l c)) (part : Int) : FsOk room (after l (tornC c part)) := by
  obtain ⟨k, p, a, t⟩ := c
  have hk' : k ≤ 1 := hk
  have hal : a.length ≤ 16777216 := hc.arg
  have hpl : p.length ≤ 100 := hc.path
  have hle : (a.take part.toNat).length ≤ a.length := by rw [List.length_take]; omega
  have key : ∀ x y : BS, y.length ≤ x.length → x.length ≤ 16777216 → FsOk room (Proofs.Ytginlknlkbhgaaa.put (p, x, t) l) → FsOk room (Proofs.Ytginlknlkbhgaaa.put (p, y, t) l) := by
    intro x y hxy hx hax
    have hbk : blocked l p = false := by
      have h1 := hax.ways (p, x, t) (mem_put.2 (.inl rfl))
      refine blk_of fun z hz => ?_
      by_cases he : z.1 = p
      · rw [he]; exact ⟨way_self _, way_self _⟩
      · exact way_sym h1 z (mem_put.2 (.inr ⟨hz, he⟩))
    refine h.put hpl (by omega) hbk ?_ ?_
    · have h1 := used_put h.srt p (x, t)
      have h2 := hax.fit
      simp only at h1
      omega
    · have h1 := put_length h.srt p (x, t)
      have h2 := hax.len
      cases hs : (look l p).isSome with
      | true => exact .inr rfl
      | false => rw [hs] at h1; simp at h1; exact .inl (by omega)
  rcases (show k = 0 ∨ k = 1 by omega) with rfl | rfl
  · rw [after0] at ha
    show FsOk room (after l (0, p, a.take part.toNat, t))
    rw [after0]
    exact key a _ hle hal ha
  · have hm : (textOf l p).length + a.length ≤ 16777216 := hc.more rfl
    rw [after1] at ha
    show FsOk room (after l (1, p, a.take part.toNat, t))
    rw [after1]
    exact key (textOf l p ++ a) _ (by rw [List.length_append, List.length_append]; omega) (by rw [List.length_append]; omega) ha
theorem Good.crashL {room : Int} {n : Nat} {S : St} (h : Good room n S) (many part : Int) : FsOk room (crashL S many part) := by
  unfold Proofs.Ytginlknlkbhgaaa.crashL
  have ht := h.run.take (crashN S many)
  cases hc : S.pend[crashN S many]? with
  | none => exact ht
  | some c =>
    have hk := h.run.at _ _ hc
    have hlt := (List.getElem?_eq_some_iff.1 hc).1
    have hge := (List.getElem?_eq_some_iff.1 hc).2
    by_cases hh : 1 ≤ part ∧ c.kind ≤ 1
    · simp only [if_pos hh]
      refine ht.torn hk hh.2 ?_ part
      have := h.run.take (crashN S many + 1)
      rw [fold_take hlt, hge] at this
      exact this
    · simp only [if_neg hh]; exact ht
theorem Good.opC {room : Int} {n : Nat} {S : St} (h : Good room n S) (many part : Int) : Good room n (opC S many part) := ⟨h.room0, h.room1, h.clock0, h.clock1, Nat.zero_le _, h.crashL many part, rfl⟩

end Go.Proofs.Ytginlknlkbhgaaa
