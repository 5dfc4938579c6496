/-
  The chapter's laws, of what acts leave of the files: no program. No condition.
-/
import Derived.Test.YtginlknlkbhgaaaFLaw1
namespace Go.Proofs.Ytginlknlkbhgaaa

theorem after3_miss {l : Fs} {p a : BS} {t : Int} (h : look l p = none) : after l (3, p, a, t) = l := by
  unfold after
  rw [if_neg (show ¬ (3 : Nat) = 0 by decide), if_neg (show ¬ (3 : Nat) = 1 by decide), if_neg (show ¬ (3 : Nat) = 2 by decide)]
  show (match look l p with | none => l | some v => put (a, v) (drp p l)) = _
  rw [h]

/-! ### each file's path is one -/
abbrev NamedC (c : Ch) : Prop := c.kind ≤ 3 ∧ (c.kind ≤ 1 → pathB c.path = true) ∧ (c.kind = 3 → pathB c.arg = true)
abbrev NamedL (l : Fs) : Prop := ∀ y ∈ l, pathB y.1 = true
theorem named_after {l : Fs} {c : Ch} (h : NamedL l) (hc : NamedC c) : NamedL (after l c) := by
  obtain ⟨k, p, a, t⟩ := c
  obtain ⟨hk, h1, h2⟩ := hc
  have hk' : k ≤ 3 := hk
  have hput : ∀ (q : BS) (u : FD) (m : Fs), pathB q = true → NamedL m → NamedL (put (q, u) m) := by
    intro q u m hq hm y hy
    rcases mem_put.1 hy with rfl | hy
    · exact hq
    · exact hm y hy.1
  have hdrp : ∀ (q : BS) (m : Fs), NamedL m → NamedL (drp q m) := fun q m hm y hy => hm y (mem_drp.1 hy).1
  rcases (show k = 0 ∨ k = 1 ∨ k = 2 ∨ k = 3 by omega) with rfl | rfl | rfl | rfl
  · rw [after0]; exact hput _ _ _ (h1 (show (0 : Nat) ≤ 1 by decide)) h
  · rw [after1]; exact hput _ _ _ (h1 (show (1 : Nat) ≤ 1 by decide)) h
  · rw [after2]; exact hdrp _ _ h
  · cases hl : look l p with
    | none => rw [after3_miss hl]; exact h
    | some v => rw [after3_hitS hl]; exact hput _ _ _ (h2 rfl) (hdrp _ _ h)
theorem named_fold : ∀ {cs : List Ch} {l : Fs}, NamedL l → (∀ c ∈ cs, NamedC c) → NamedL (cs.foldl after l)
  | [], _, h, _ => h
  | c :: r, l, h, hc => named_fold (cs := r) (named_after h (hc c (by simp))) (fun d hd => hc d (by simp [hd]))
structure Named (S : St) : Prop where
  last : NamedL S.last
  pend : ∀ c ∈ S.pend, NamedC c
theorem Named.new : Named (0, [], [], []) := ⟨(by intro y hy; cases hy), (by intro c hc; cases hc)⟩
theorem Named.now {room : Int} {n : Nat} {S : St} (h : Named S) (hg : Good room n S) : NamedL S.now := by rw [← hg.now]; exact named_fold h.last h.pend
theorem Named.did {S : St} (h : Named S) (k : Nat) (p a : BS) (hc : NamedC (k, p, a, S.clock + 1)) : Named (doSt S k p a) := by
  refine ⟨h.last, fun c hm => ?_⟩
  rcases List.mem_append.1 (show c ∈ S.pend ++ [(k, p, a, S.clock + 1)] from hm) with hm | hm
  · exact h.pend c hm
  · rw [List.mem_singleton.1 hm]; exact hc
theorem Named.opR {S : St} (h : Named S) (p : BS) : Named (opR S p).2 := by
  unfold Proofs.Ytginlknlkbhgaaa.opR
  split
  · exact h.did _ _ _ ⟨by simp [Ch.kind], fun h => absurd h (by simp [Ch.kind]), fun h => absurd h (by simp [Ch.kind])⟩
  · exact h
theorem Named.opW {room : Int} {S : St} (h : Named S) (p s : BS) : Named (opW room S p s).2 := by
  unfold Proofs.Ytginlknlkbhgaaa.opW
  split
  · rename_i hc
    exact h.did _ _ _ ⟨by simp [Ch.kind], fun _ => (check_ok hc).1, fun h => absurd h (by simp [Ch.kind])⟩
  · exact h
theorem Named.opA {room : Int} {S : St} (h : Named S) (p s : BS) : Named (opA room S p s).2 := by
  unfold Proofs.Ytginlknlkbhgaaa.opA
  split
  · rename_i hc
    exact h.did _ _ _ ⟨by simp [Ch.kind], fun _ => (check_ok hc).1, fun h => absurd h (by simp [Ch.kind])⟩
  · exact h
theorem Named.opN {S : St} (h : Named S) (p q : BS) : Named (opN S p q).2 := by
  unfold Proofs.Ytginlknlkbhgaaa.opN
  split
  · exact h
  · split
    · exact h
    · rename_i hq
      split
      · exact h
      · split
        · exact h
        · exact h.did _ _ _ ⟨by simp [Ch.kind], fun h => absurd h (by simp [Ch.kind]), fun _ => by simpa using hq⟩
theorem Named.opS {room : Int} {n : Nat} {S : St} (h : Named S) (hg : Good room n S) : Named (opS S) := ⟨h.now hg, (by intro c hc; cases hc)⟩
theorem Named.crash {S : St} (h : Named S) (many part : Int) : Named (opC S many part) := by
  have ht : NamedL ((S.pend.take (crashN S many)).foldl after S.last) := named_fold h.last (fun c hc => h.pend c (List.mem_of_mem_take hc))
  refine ⟨?_, (by intro c hc; cases hc)⟩
  show NamedL (crashL S many part)
  unfold crashL
  cases hc : S.pend[crashN S many]? with
  | none => exact ht
  | some c =>
    by_cases hh : 1 ≤ part ∧ c.kind ≤ 1
    · simp only [if_pos hh]
      have hm := h.pend c (List.mem_of_getElem? hc)
      exact named_after ht ⟨hm.1, hm.2.1, fun h => absurd (show c.kind = 3 from h) (by omega)⟩
    · simp only [if_neg hh]; exact ht
theorem Named.act {room : Int} {n : Nat} {S : St} (h : Named S) (hg : Good room n S) (a : ActV) : Named (actS room S a) := by
  unfold actS
  split
  · exact h.opW _ _
  · split
    · exact h.opA _ _
    · split
      · exact h.opR _
      · split
        · exact h.opN _ _
        · split
          · exact h.opS hg
          · exact h.crash _ _

/-! ### a file renamed, and renamed back -/
theorem removed {S : St} {b : BS} : look (opR S b).2.now b = none := by
  unfold opR
  cases hl : look S.now b with
  | none => simpa using hl
  | some v =>
    show look (after S.now (2, b, [], S.clock + 1)) b = none
    rw [after2]; exact look_drp_same b
theorem turn_pure {room : Int} {n : Nat} {S : St} (hg : Good room n S) (hN : Named S) (a b : BS) (hb : look S.now b = none) :
    ((opN S a b).1 ≠ 0 → (opN S a b).2 = S ∧ ((opStat S a).2.2 = 4 ↔ (opN S a b).1 = 4)) ∧
    ((opN S a b).1 = 0 → (opStat S a).2.2 = 0 ∧ (opN (opN S a b).2 b a).1 = 0 ∧ (opN (opN S a b).2 b a).2.now = S.now ∧ opStat (opN (opN S a b).2 b a).2 a = opStat S a) := by
  cases hl : look S.now a with
  | none =>
    have e : opN S a b = (4, S) := by unfold opN; rw [hl]; rfl
    rw [e]
    refine ⟨fun _ => ⟨rfl, ?_⟩, fun h => absurd h (by simp)⟩
    unfold opStat; rw [hl]
  | some v =>
    have hst : (opStat S a).2.2 = 0 := by unfold opStat; rw [hl]
    cases hp : pathB b with
    | false =>
      have e : opN S a b = (1, S) := by unfold opN; rw [hl, hp]; rfl
      rw [e, hst]
      exact ⟨fun _ => ⟨rfl, by simp⟩, fun h => absurd h (by simp)⟩
    | true =>
      have hab : a ≠ b := fun e => by rw [e, hb] at hl; cases hl
      cases hbk : blocked (drp a S.now) b with
      | true =>
        have e : opN S a b = (5, S) := by unfold opN; rw [hl, hp, hbk, if_neg hab]; rfl
        rw [e, hst]
        exact ⟨fun _ => ⟨rfl, by simp⟩, fun h => absurd h (by simp)⟩
      | false =>
        have e : opN S a b = (0, doSt S 3 a b) := by unfold opN; rw [hl, hp, hbk, if_neg hab]; rfl
        rw [e]
        refine ⟨fun h => absurd rfl h, fun _ => ⟨hst, ?_⟩⟩
        have hs := hg.files.srt
        have hmem := look_mem hl
        obtain ⟨S2, hS2⟩ : ∃ S2, S2 = doSt S 3 a b := ⟨_, rfl⟩
        have hnow : S2.now = put (b, v) (drp a S.now) := by rw [hS2]; exact after3_hitS hl
        have hl2 : look S2.now b = some v := by rw [hnow]; exact look_put_same (hs.drp a) b v
        have hpa : pathB a = true := hN.now hg (a, v) hmem
        have hbk2 : blocked (drp b S2.now) a = false := by
          refine blk_of fun y hy => ?_
          rw [hnow] at hy
          obtain ⟨hy, hyb⟩ := mem_drp.1 hy
          rcases mem_put.1 hy with rfl | hy
          · exact absurd rfl hyb
          · exact way_sym (hg.files.ways (a, v) hmem) y (mem_drp.1 hy.1).1
        have e2 : opN S2 b a = (0, doSt S2 3 b a) := by unfold opN; rw [hl2, hpa, hbk2, if_neg (Ne.symm hab)]; rfl
        rw [← hS2, e2]
        have hnow2 : (doSt S2 3 b a).now = S.now := by
          have h3 : (doSt S2 3 b a).now = put (a, v) (drp b S2.now) := after3_hitS hl2
          have hs2 : Srt S2.now := by rw [hnow]; exact (hs.drp a).put _
          rw [h3]
          refine look_srt_ext ((hs2.drp b).put _) hs (fun p => ?_)
          by_cases hpa : p = a
          · rw [hpa, look_put_same (hs2.drp b) a v, hl]
          · rw [look_put_other (hs2.drp b) hpa]
            by_cases hpb : p = b
            · rw [hpb, look_drp_same, hb]
            · rw [look_drp_other hs2 hpb, hnow, look_put_other (hs.drp a) hpb, look_drp_other hs hpa]
        refine ⟨rfl, hnow2, ?_⟩
        unfold opStat
        rw [hnow2]

/-! ### sizes and times -/
theorem opN_err {S : St} {p q : BS} (h : (opN S p q).1 ≠ 0) : (opN S p q).2 = S := by
  unfold opN at *
  split
  · rfl
  · split
    · rfl
    · split
      · rfl
      · split
        · rfl
        · simp_all
theorem opA_err {room : Int} {S : St} {p s : BS} (h : (opA room S p s).1 ≠ 0) : (opA room S p s).2 = S := by
  unfold opA at *
  split
  · simp_all
  · rfl
theorem opN_stat {room : Int} {n : Nat} {S : St} (hg : Good room n S) {p q : BS} (h : (opN S p q).1 = 0) : (opStat S p).2.2 = 0 ∧ opStat (opN S p q).2 q = opStat S p := by
  have hs := hg.files.srt
  cases hl : look S.now p with
  | none =>
    have e : opN S p q = (4, S) := by unfold opN; rw [hl]; rfl
    rw [e] at h; exact absurd h (by simp)
  | some v =>
    have hst : (opStat S p).2.2 = 0 := by unfold opStat; rw [hl]
    refine ⟨hst, ?_⟩
    cases hp : pathB q with
    | false =>
      have e : opN S p q = (1, S) := by unfold opN; rw [hl, hp]; rfl
      rw [e] at h; exact absurd h (by simp)
    | true =>
      by_cases hpq : p = q
      · have e : opN S p q = (0, S) := by unfold opN; rw [hl, hp, if_pos hpq]; rfl
        rw [e, ← hpq]
      · cases hbk : blocked (drp p S.now) q with
        | true =>
          have e : opN S p q = (5, S) := by unfold opN; rw [hl, hp, hbk, if_neg hpq]; rfl
          rw [e] at h; exact absurd h (by simp)
        | false =>
          have e : opN S p q = (0, doSt S 3 p q) := by unfold opN; rw [hl, hp, hbk, if_neg hpq]; rfl
          rw [e]
          have h2 : look (doSt S 3 p q).now q = some v := by
            rw [show (doSt S 3 p q).now = put (q, v) (drp p S.now) from after3_hitS hl]
            exact look_put_same (hs.drp p) q v
          unfold opStat
          rw [h2, hl]
theorem stat_size {S : St} (p : BS) : (opStat S p).1 = ((textOf S.now p).length : Nat) := by
  unfold opStat textOf
  cases look S.now p <;> rfl
theorem opA_stat {room : Int} {n : Nat} {S : St} (hg : Good room n S) {p s : BS} (h : (opA room S p s).1 = 0) :
    opStat (opA room S p s).2 p = ((opStat S p).1 + (s.length : Nat), S.clock + 1, 0) ∧ (opA room S p s).2.clock = S.clock + 1 := by
  have hs := hg.files.srt
  have e : opA room S p s = (0, doSt S 1 p s) := by
    unfold opA at *
    split
    · rfl
    · simp_all
  rw [e]
  refine ⟨?_, rfl⟩
  have h2 : look (doSt S 1 p s).now p = some (textOf S.now p ++ s, S.clock + 1) := by
    rw [show (doSt S 1 p s).now = put (p, textOf S.now p ++ s, S.clock + 1) S.now from after1 _ _ _ _]
    exact look_put_same hs p _
  rw [stat_size]
  unfold opStat
  rw [h2]
  simp [List.length_append]
theorem opN_clock {S : St} {p q : BS} : S.clock ≤ (opN S p q).2.clock := by
  unfold opN
  split
  · exact Int.le_refl _
  · split
    · exact Int.le_refl _
    · split
      · exact Int.le_refl _
      · split
        · exact Int.le_refl _
        · show S.clock ≤ S.clock + 1; omega

/-! ### crashes -/
theorem crash_zero {S : St} : crashL S 0 0 = S.last := by
  have hN : crashN S 0 = 0 := by unfold crashN; simp; omega
  have : crashL S 0 0 = (S.pend.take 0).foldl after S.last := by
    cases hc : S.pend[0]? with
    | none => exact crash_none hN (.inl hc)
    | some c => exact crash_none hN (.inr ⟨c, hc, fun h => absurd h.1 (by decide)⟩)
  simpa using this
theorem crash_some_kept {S : St} (i : Nat) (hi : i ≤ S.pend.length) : crashL S i 0 = (S.pend.take i).foldl after S.last := by
  have hN : crashN S i = i := by unfold crashN; omega
  cases hc : S.pend[i]? with
  | none => exact crash_none hN (.inl hc)
  | some c => exact crash_none hN (.inr ⟨c, hc, fun h => absurd h.1 (by decide)⟩)
theorem crash_every {room : Int} {n : Nat} {S : St} (hg : Good room n S) : crashL S (S.pend.length : Nat) 0 = S.now := by
  rw [crash_some_kept _ (Nat.le_refl _), List.take_length, hg.now]
/-- A change keeps what was synced; it is the last one then. -/
theorem act_kept {room : Int} {S : St} (a : ActV) (h : a.k < 6) : (actS room S a).last = S.last ∧ (actS room S a = S ∨ ∃ c, (actS room S a).pend = S.pend ++ [c]) := by
  have key : ∀ k p s, (doSt S k p s).last = S.last ∧ (doSt S k p s = S ∨ ∃ c, (doSt S k p s).pend = S.pend ++ [c]) := fun k p s => ⟨rfl, .inr ⟨_, rfl⟩⟩
  unfold actS
  split
  · unfold opW; split
    · exact key _ _ _
    · exact ⟨rfl, .inl rfl⟩
  · split
    · unfold opA; split
      · exact key _ _ _
      · exact ⟨rfl, .inl rfl⟩
    · split
      · unfold opR; split
        · exact key _ _ _
        · exact ⟨rfl, .inl rfl⟩
      · split
        · unfold opN
          split
          · exact ⟨rfl, .inl rfl⟩
          · split
            · exact ⟨rfl, .inl rfl⟩
            · split
              · exact ⟨rfl, .inl rfl⟩
              · split
                · exact ⟨rfl, .inl rfl⟩
                · exact key _ _ _
        · omega

def OW : BS := [111, 119, 110]
def BE : BS := [98, 101, 115, 105, 100, 101]
theorem ow_path : pathB OW = true := by decide +kernel
theorem be_ow : BE ≠ OW := by decide
theorem opW_ok {room : Int} {S : St} {p s : BS} (h : (opW room S p s).1 = 0) : opW room S p s = (0, doSt S 0 p s) := by
  unfold opW at *
  split
  · rfl
  · simp_all
theorem whole_pure {room : Int} {n : Nat} {S1 : St} (hg : Good room n S1) (old text : BS) (many part : Int) (hb : look S1.now BE = none) (h1 : (opW room S1 OW old).1 = 0) (h2 : (opW room (opS (opW room S1 OW old).2) BE text).1 = 0) :
    (opN (opW room (opS (opW room S1 OW old).2) BE text).2 BE OW).1 = 0 ∧ (opN (opW room (opS (opW room S1 OW old).2) BE text).2 BE OW).2.pend.length = 2 ∧
    (2 ≤ many → opRead (opC (opN (opW room (opS (opW room S1 OW old).2) BE text).2 BE OW).2 many part) OW = (text, 0) ∧ (opRead (opC (opN (opW room (opS (opW room S1 OW old).2) BE text).2 BE OW).2 many part) BE).2 = 4) ∧
    (¬ 2 ≤ many → opRead (opC (opN (opW room (opS (opW room S1 OW old).2) BE text).2 BE OW).2 many part) OW = (old, 0) ∧
      ((many = 1 ∨ 1 ≤ part) → (opRead (opC (opN (opW room (opS (opW room S1 OW old).2) BE text).2 BE OW).2 many part) BE).2 = 0) ∧
      (¬ (many = 1 ∨ 1 ≤ part) → (opRead (opC (opN (opW room (opS (opW room S1 OW old).2) BE text).2 BE OW).2 many part) BE).2 = 4)) := by
  obtain ⟨S2, hS2⟩ : ∃ S2, S2 = (opW room S1 OW old).2 := ⟨_, rfl⟩
  have hg2 : Good room (n + 1) S2 := by rw [hS2]; exact hg.opW _ _
  have e2 : S2 = doSt S1 0 OW old := by rw [hS2, opW_ok h1]
  obtain ⟨S3, hS3⟩ : ∃ S3, S3 = opS S2 := ⟨_, rfl⟩
  have hg3 : Good room (n + 1) S3 := by rw [hS3]; exact hg2.opS
  obtain ⟨S4, hS4⟩ : ∃ S4, S4 = (opW room S3 BE text).2 := ⟨_, rfl⟩
  have hg4 : Good room (n + 1 + 1) S4 := by rw [hS4]; exact hg3.opW _ _
  rw [← hS2, ← hS3] at h2
  rw [← hS2, ← hS3, ← hS4]
  have e4 : S4 = doSt S3 0 BE text := by rw [hS4, opW_ok h2]
  have hs1 := hg.files.srt
  obtain ⟨L, hL⟩ : ∃ L, L = S2.now := ⟨_, rfl⟩
  have hLp : L = put (OW, old, S1.clock + 1) S1.now := by rw [hL, e2]; exact after0 _ _ _ _
  have hsL : Srt L := by rw [hLp]; exact hs1.put _
  have hLo : look L OW = some (old, S1.clock + 1) := by rw [hLp]; exact look_put_same hs1 _ _
  have hLb : look L BE = none := by rw [hLp, look_put_other hs1 be_ow]; exact hb
  have n3 : S3.now = L := by rw [hS3, hL]; rfl
  have l3 : S3.last = L := by rw [hS3, hL]; rfl
  have p3 : S3.pend = [] := by rw [hS3]; rfl
  have n4 : S4.now = put (BE, text, S3.clock + 1) L := by rw [e4, ← n3]; exact after0 _ _ _ _
  have hs4 : Srt S4.now := by rw [n4]; exact hsL.put _
  have hb4 : look S4.now BE = some (text, S3.clock + 1) := by rw [n4]; exact look_put_same hsL _ _
  have ho4 : look S4.now OW = some (old, S1.clock + 1) := by rw [n4, look_put_other hsL (Ne.symm be_ow)]; exact hLo
  have hbk : blocked (drp BE S4.now) OW = false := blk_of fun y hy => way_sym (hg4.files.ways (OW, _) (look_mem ho4)) y (mem_drp.1 hy).1
  have eN : opN S4 BE OW = (0, doSt S4 3 BE OW) := by unfold opN; rw [hb4, ow_path, hbk, if_neg be_ow]; rfl
  rw [eN]
  obtain ⟨S5, hS5⟩ : ∃ S5, S5 = doSt S4 3 BE OW := ⟨_, rfl⟩
  have p5 : S5.pend = [(0, BE, text, S3.clock + 1), (3, BE, OW, S4.clock + 1)] := by
    rw [hS5]; show S4.pend ++ [_] = _
    rw [e4]; show (S3.pend ++ [_]) ++ [_] = _
    rw [p3]; rfl
  have l5 : S5.last = L := by rw [hS5]; show S4.last = _; rw [e4]; exact l3
  rw [← hS5]
  have read_of : ∀ (m p : Int) (q : BS), opRead (opC S5 m p) q = match look (crashL S5 m p) q with | none => ([], 4) | some v => (v.1, 0) := fun m p q => rfl
  have hlen : S5.pend.length = 2 := by rw [p5]; rfl
  have f1 : (S5.pend.take 1).foldl after S5.last = S4.now := by rw [p5, l5, n4]; exact after0 _ _ _ _
  have f2 : (S5.pend.take 2).foldl after S5.last = put (OW, text, S3.clock + 1) (drp BE S4.now) := by
    have : (S5.pend.take 2).foldl after S5.last = after S4.now (3, BE, OW, S4.clock + 1) := by rw [← f1, p5]; rfl
    rw [this]; exact after3_hitS hb4
  refine ⟨rfl, hlen, fun hm => ?_, fun hm => ?_⟩
  · have hN : crashN S5 many = 2 := by unfold crashN; rw [hlen]; omega
    have hc : crashL S5 many part = put (OW, text, S3.clock + 1) (drp BE S4.now) := by
      rw [← f2]; exact crash_none hN (.inl (by rw [p5]; rfl))
    rw [read_of, read_of, hc, look_put_same (hs4.drp BE), look_put_other (hs4.drp BE) be_ow, look_drp_same]
    exact ⟨rfl, rfl⟩
  · by_cases h1 : many = 1
    · have hN : crashN S5 many = 1 := by unfold crashN; rw [hlen]; omega
      have hc : crashL S5 many part = S4.now := by
        rw [← f1]; exact crash_none hN (.inr ⟨_, by rw [p5]; rfl, fun h => absurd h.2 (show ¬ (3 : Nat) ≤ 1 by decide)⟩)
      rw [read_of, read_of, hc, ho4, hb4]
      exact ⟨rfl, fun _ => rfl, fun h => absurd (.inl h1) h⟩
    · have hN : crashN S5 many = 0 := by unfold crashN; rw [hlen]; omega
      by_cases hp : 1 ≤ part
      · have hc : crashL S5 many part = put (BE, text.take part.toNat, S3.clock + 1) L := by
          rw [crash_torn hN (by rw [p5]; rfl) hp (show (0 : Nat) ≤ 1 by decide)]
          show after (([] : List Ch).foldl after S5.last) (0, BE, text.take part.toNat, S3.clock + 1) = _
          rw [after0]
          show put _ S5.last = _
          rw [l5]
        rw [read_of, read_of, hc, look_put_same hsL, look_put_other hsL (Ne.symm be_ow), hLo]
        exact ⟨rfl, fun _ => rfl, fun h => absurd (.inr hp) h⟩
      · have hc : crashL S5 many part = L := by
          rw [crash_none hN (.inr ⟨_, by rw [p5]; rfl, fun h => hp h.1⟩)]
          show S5.last = _
          exact l5
        rw [read_of, read_of, hc, hLo, hLb]
        exact ⟨rfl, fun h => absurd h (by omega), fun _ => rfl⟩


end Go.Proofs.Ytginlknlkbhgaaa
