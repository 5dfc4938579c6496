/-
  What a store's calls come to, in plain words, and the chapter's laws of it: no program. No condition.
-/
import Derived.Test.YtchnbnmajagpjaaGreatDoorJMath
namespace Go.Proofs.YtchnbnmajagpjaaGreatDoor
open Go.RowKit

/-! ### numbers -/
def single (L : List BS) : LL := L.map fun t => [t]
def findN (L : List BS) (t : BS) : Nat := if t ∈ L then L.idxOf t + 1 else 0
theorem find_not {L : List BS} {t : BS} (h : t ∉ L) : findN L t = 0 := by unfold findN; rw [if_neg h]
theorem find_mem {L : List BS} {t : BS} (h : t ∈ L) : findN L t = L.idxOf t + 1 := by unfold findN; rw [if_pos h]
theorem find_pos {L : List BS} {t : BS} : 0 < findN L t ↔ t ∈ L := by
  unfold findN
  split
  · rename_i h; exact ⟨fun _ => h, fun _ => by omega⟩
  · rename_i h; exact ⟨fun h0 => absurd h0 (by omega), fun h1 => absurd h1 h⟩
theorem find_le (L : List BS) (t : BS) : findN L t ≤ L.length := by
  unfold findN
  split
  · rename_i h; have := List.idxOf_lt_length_of_mem h; omega
  · omega
theorem find_get {L : List BS} {t : BS} (h : t ∈ L) : L[findN L t - 1]? = some t := by
  rw [find_mem h, Nat.add_sub_cancel]
  have hl := List.idxOf_lt_length_of_mem h
  rw [List.getElem?_eq_getElem hl, List.getElem_idxOf]
theorem find_app {L r : List BS} {t : BS} (h : t ∈ L) : findN (L ++ r) t = findN L t := by
  rw [find_mem h, find_mem (List.mem_append_left _ h), List.idxOf_append, if_pos h]
theorem find_new {L : List BS} {t : BS} (h : t ∉ L) : findN (L ++ [t]) t = L.length + 1 := by
  rw [find_mem (by simp), List.idxOf_append, if_neg h]
  simp
theorem find_inj {L : List BS} {t s : BS} (ht : t ∈ L) (hs : s ∈ L) (h : findN L t = findN L s) : t = s := by
  have h1 := find_get ht
  have h2 := find_get hs
  rw [h, h2] at h1
  exact (Option.some.inj h1).symm
theorem find_take {L : List BS} {m : Nat} {t : BS} (h : t ∈ L.take m) : findN (L.take m) t = findN L t := by
  conv => rhs; rw [← List.take_append_drop m L]
  exact (find_app h).symm

/-! ### the records that are kept -/
def keepT : LL → List BS → List BS
  | [], acc => acc
  | [t] :: r, acc => if t ∈ acc then acc else keepT r (acc ++ [t])
  | _ :: _, acc => acc
def keepsOf (ls : LL) : List BS := keepT ls []
theorem keepT_other {x : List BS} {r : LL} {acc : List BS} (h : x.length ≠ 1) : keepT (x :: r) acc = acc := by
  match x, h with
  | [], _ => rfl
  | [_], h => exact absurd rfl h
  | _ :: _ :: _, _ => rfl
theorem keepT_prefix : ∀ (ls : LL) (acc : List BS), ∃ k, k ≤ ls.length ∧ keepT ls acc = acc ++ (ls.take k).flatten ∧ single (ls.take k).flatten = ls.take k ∧ (acc.Nodup → (keepT ls acc).Nodup)
  | [], acc => ⟨0, by simp, by simp [keepT], by simp [single], fun h => h⟩
  | x :: r, acc => by
    by_cases hx : x.length = 1
    · obtain ⟨t, rfl⟩ := List.length_eq_one_iff.1 hx
      by_cases ht : t ∈ acc
      · exact ⟨0, by simp, by simp [keepT, ht], by simp [single], fun h => by simpa [keepT, ht] using h⟩
      · obtain ⟨k, h1, h2, h3, h4⟩ := keepT_prefix r (acc ++ [t])
        refine ⟨k + 1, by simpa using h1, ?_, ?_, fun h => ?_⟩
        · simp [keepT, ht, h2]
        · simp only [List.take_succ_cons, List.flatten_cons, List.singleton_append]
          show [t] :: single (r.take k).flatten = _
          rw [h3]
        · simp only [keepT, ht, if_false]
          exact h4 (by rw [List.nodup_append]; exact ⟨h, by simp, by intro a ha b hb; simp at hb; subst hb; rintro rfl; exact ht ha⟩)
    · exact ⟨0, by simp, by rw [keepT_other hx]; simp, by simp [single], fun h => by rw [keepT_other hx]; exact h⟩
theorem keeps_prefix (ls : LL) : (keepsOf ls).length ≤ ls.length ∧ ls.take (keepsOf ls).length = single (keepsOf ls) ∧ (keepsOf ls).Nodup := by
  obtain ⟨k, h1, h2, h3, h4⟩ := keepT_prefix ls []
  have e : keepsOf ls = (ls.take k).flatten := by unfold keepsOf; rw [h2]; simp
  have hk : (keepsOf ls).length = k := by
    have := congrArg List.length h3
    rw [single, List.length_map, List.length_take, ← e] at this
    omega
  refine ⟨by omega, by rw [hk, e]; exact h3.symm, h4 List.nodup_nil⟩
theorem keepT_all : ∀ (L acc : List BS), (acc ++ L).Nodup → keepT (single L) acc = acc ++ L
  | [], acc, _ => by simp [single, keepT]
  | t :: r, acc, h => by
    have ht : t ∉ acc := fun hm => by
      rw [List.nodup_append] at h
      exact h.2.2 t hm t (by simp) rfl
    show keepT ([t] :: single r) acc = _
    simp only [keepT, ht, if_false]
    rw [keepT_all r (acc ++ [t]) (by simpa using h)]
    simp
theorem keeps_all {L : List BS} (h : L.Nodup) : keepsOf (single L) = L := by
  unfold keepsOf
  rw [keepT_all L [] (by simpa using h)]; rfl
theorem single_len (L : List BS) : (single L).length = L.length := by simp [single]
theorem single_app (L r : List BS) : single (L ++ r) = single L ++ single r := by simp [single]
theorem single_take (L : List BS) (m : Nat) : (single L).take m = single (L.take m) := by simp [single, List.map_take]
theorem nodup_take {L : List BS} (h : L.Nodup) (m : Nat) : (L.take m).Nodup := h.sublist (List.take_sublist m L)
theorem nodup_new {L : List BS} {t : BS} (h : L.Nodup) (ht : t ∉ L) : (L ++ [t]).Nodup := by
  rw [List.nodup_append]
  exact ⟨h, by simp, by intro a ha b hb; simp at hb; subst hb; rintro rfl; exact ht ha⟩

/-! ### the calls -/
/-- The code, the texts, and the tree behind. -/
noncomputable def bOpen (room : Int) (S : St) (p : BS) : Int × (List BS × St) :=
  if (jOpen room S p).2.1 = 0 then
    if (keepsOf (jOpen room S p).1).length < (jOpen room S p).1.length then
      ((jAnew room (jOpen room S p).2.2 p (single (keepsOf (jOpen room S p).1))).1, keepsOf (jOpen room S p).1, (jAnew room (jOpen room S p).2.2 p (single (keepsOf (jOpen room S p).1))).2)
    else (0, keepsOf (jOpen room S p).1, (jOpen room S p).2.2)
  else ((jOpen room S p).2.1, [], (jOpen room S p).2.2)
/-- The number, the code, the texts, and the tree behind. -/
noncomputable def bId (room : Int) (S : St) (p : BS) (L : List BS) (t : BS) : (Int × Int) × (List BS × St) :=
  if t ∈ L then ((findN L t, 0), L, S)
  else if (jAdd room S p [t]).1 = 0 then ((L.length + 1, 0), L ++ [t], (jAdd room S p [t]).2)
  else ((0, (jAdd room S p [t]).1), L, (jAdd room S p [t]).2)
theorem Good.bOpen {room : Int} {n : Nat} {S : St} (h : Good room n S) (p : BS) : Good room (n + 7) (bOpen room S p).2.2 := by
  unfold Proofs.YtchnbnmajagpjaaGreatDoor.bOpen
  have h1 := h.jOpen p
  split
  · split
    · exact h1.jAnew _ _
    · exact h1.more (by omega)
  · exact h1.more (by omega)
theorem Good.bId {room : Int} {n : Nat} {S : St} (h : Good room n S) (p : BS) (L : List BS) (t : BS) : Good room (n + 1) (bId room S p L t).2.2 := by
  unfold Proofs.YtchnbnmajagpjaaGreatDoor.bId
  split
  · exact h.more (by omega)
  · split
    · exact h.jAdd _ _
    · exact h.jAdd _ _
theorem bId_nodup {room : Int} {S : St} {p : BS} {L : List BS} {t : BS} (h : L.Nodup) : (bId room S p L t).2.1.Nodup := by
  unfold bId
  split
  · exact h
  · rename_i ht
    split
    · exact nodup_new h ht
    · exact h
theorem bOpen_nodup (room : Int) (S : St) (p : BS) : (bOpen room S p).2.1.Nodup := by
  unfold bOpen
  split
  · split
    · exact (keeps_prefix _).2.2
    · exact (keeps_prefix _).2.2
  · exact List.nodup_nil

/-! ### the store of the name b, in a tree with room for 1048576 bytes -/
def BNL : BS := [98]
def BN2 : List BS := [BNL, besideL BNL]
theorem bn_path : pathB BNL = true ∧ pathB (besideL BNL) = true := by decide +kernel
theorem bn_calm : ∀ a ∈ BN2, ∀ b ∈ BN2, way a b = false := by decide +kernel
theorem bn_in1 : BNL ∈ BN2 := by simp [BN2]
theorem bn_in2 : besideL BNL ∈ BN2 := by simp [BN2]
theorem fit_one {t : BS} (h : t.length ≤ 300) : Fit [t] ∧ (lineOf [t]).length ≤ 1000 := by
  have h1 := (quote_len t).2
  have h2 : (bodyOf [t]).length = (quoteOf t).length + 1 := by simp [bodyOf]
  have h3 : (quoteOf t).length ≤ 901 := by omega
  exact ⟨⟨by simp, by simp, by omega⟩, by rw [line_len]; omega⟩
theorem fits_single {L : List BS} (h : ∀ t ∈ L, t.length ≤ 300) : ∀ x ∈ single L, Fit x := by
  intro x hx
  obtain ⟨t, ht, rfl⟩ := List.mem_map.1 hx
  exact (fit_one (h t ht)).1
theorem lines_single : ∀ {L : List BS}, (∀ t ∈ L, t.length ≤ 300) → (linesOfAll (single L)).length ≤ 1000 * L.length
  | [], _ => by simp [single, linesOfAll]
  | t :: r, h => by
    have h1 := (fit_one (h t (by simp))).2
    have h2 := lines_single (L := r) fun s hs => h s (by simp [hs])
    have e : linesOfAll (single (t :: r)) = lineOf [t] ++ linesOfAll (single r) := by simp [single, linesOfAll]
    rw [e, List.length_append, List.length_cons]
    omega
/-- A store of the texts L, of which the first k are synced. -/
structure BK (S : St) (L : List BS) (k : Nat) : Prop where
  kept : Kept6 BNL S (single L) k
  nodup : L.Nodup
  short : ∀ t ∈ L, t.length ≤ 300
section
variable {S : St} {L : List BS} {k n : Nat} {t : BS}
theorem bn_used {l : Fs} (hs : Srt l) (hk : Keys [BNL] l) : used l ≤ (textOf l BNL).length := by
  have := (keys_sizes hs hk).1
  simpa using this
theorem BK.now (h : BK S L k) (hg : Good 1048576 n S) : Logs BNL S.now (linesOfAll (single L)) ∧ (linesOfAll (single L)).length ≤ 1000 * L.length := ⟨h.kept.now hg, lines_single h.short⟩
theorem BK.add (h : BK S L k) (hg : Good 1048576 n S) (hl : L.length ≤ 100) (ht : t.length ≤ 300) (hn : t ∉ L) : (jAdd 1048576 S BNL [t]).1 = 0 ∧ BK (jAdd 1048576 S BNL [t]).2 (L ++ [t]) k := by
  obtain ⟨h1, h2⟩ := h.now hg
  obtain ⟨f1, f2⟩ := fit_one ht
  have hu := bn_used h1.srt h1.keys
  rw [h1.text] at hu
  have hk : Keys BN2 S.now := fun y hy => by
    have := h1.keys y hy
    simp only [List.mem_singleton] at this
    rw [this]; exact bn_in1
  have hlen := (keys_sizes h1.srt h1.keys).2
  simp only [List.length_singleton] at hlen
  have hc : checkC 1048576 S.now BNL ((textOf S.now BNL).length + (lineOf [t]).length) = 0 := by
    rw [h1.text]
    exact check_zero bn_path.1 (by omega) (hk.free bn_calm bn_in1) (by omega) (by omega)
  have e : (jAdd 1048576 S BNL [t]).1 = 0 := by
    unfold jAdd
    rw [if_pos bn_path.2, if_pos (lineC_fit f1)]
    unfold opA
    rw [if_pos hc]
  refine ⟨e, ?_, nodup_new h.nodup hn, fun s hs => ?_⟩
  · have := h.kept.add e
    rw [single_app]
    exact this
  · rcases List.mem_append.1 hs with hs | hs
    · exact h.short s hs
    · simp at hs; rw [hs]; exact ht
theorem BK.sync (h : BK S L k) (hg : Good 1048576 n S) : BK (opS S) L L.length := ⟨by have := h.kept.sync hg; rwa [single_len] at this, h.nodup, h.short⟩
/-- What is told behind: of any tree that holds first ones of such a store's records, and what begins with no line. -/
theorem bn_open {S : St} {L : List BS} {tail : BS} (hg : Good 1048576 n S) (h : Logs BNL S.now (linesOfAll (single L) ++ tail)) (hd : L.Nodup) (hs : ∀ t ∈ L, t.length ≤ 300) (hl : L.length ≤ 100) (ht : ∀ xs r, takeOf tail ≠ .ok xs r) (htl : tail.length ≤ 13000) :
    (bOpen 1048576 S BNL).1 = 0 ∧ (bOpen 1048576 S BNL).2.1 = L ∧ BK (bOpen 1048576 S BNL).2.2 L L.length := by
  have hls := lines_single hs
  have hk : Keys BN2 S.now := fun y hy => by
    have := h.keys y hy
    simp only [List.mem_singleton] at this
    rw [this]; exact bn_in1
  have hu := bn_used h.srt h.keys
  rw [h.text, List.length_append] at hu
  have hf := fits_single hs
  have hO := open_ok hg hk bn_calm (by decide) bn_in1 bn_in2 bn_path.1 bn_path.2 (by rw [h.text, List.length_append]; omega) (by rw [h.text, List.length_append]; omega)
  have hll : listsOf (textOf S.now BNL) = single L := by rw [h.text]; exact lists_of (single L) tail hf ht
  have e1 : (jOpen 1048576 S BNL).1 = single L := hO.lists.trans hll
  have e2 := hO.code
  have e3 : keepsOf (single L) = L := keeps_all hd
  have hb : bOpen 1048576 S BNL = (0, L, (jOpen 1048576 S BNL).2.2) := by
    unfold bOpen
    rw [if_pos e2, e1, e3, if_neg (by rw [single_len]; omega)]
  rw [hb]
  have gO := hg.jOpen BNL
  refine ⟨rfl, rfl, ⟨by rw [single_len]; exact Nat.le_refl _, hf, ?_, ?_⟩, hd, hs⟩
  · show Logs BNL (jOpen 1048576 S BNL).2.2.last _
    rw [hO.last]
    refine ⟨gO.files.srt, fun y hy => ?_, ?_⟩
    · have h1 := hO.keys y hy
      simp only [BN2, List.mem_cons, List.not_mem_nil, or_false] at h1
      rcases h1 with h1 | h1
      · simp [h1]
      · exfalso
        have h2 := look_of_mem gO.files.srt hy
        rw [h1, hO.beside] at h2
        cases h2
    · rw [hO.text, hll, ← single_len L, List.take_length]
  · rw [hO.pend, ← single_len L, List.drop_length]; rfl
theorem BK.open (h : BK S L k) (hg : Good 1048576 n S) (hl : L.length ≤ 100) : (bOpen 1048576 S BNL).1 = 0 ∧ (bOpen 1048576 S BNL).2.1 = L ∧ BK (bOpen 1048576 S BNL).2.2 L L.length :=
  bn_open (tail := []) hg (by rw [List.append_nil]; exact (h.now hg).1) h.nodup h.short hl no_take_nil (by simp)
theorem BK.new : (bOpen 1048576 (0, [], [], []) BNL).1 = 0 ∧ (bOpen 1048576 (0, [], [], []) BNL).2.1 = [] ∧ BK (bOpen 1048576 (0, [], [], []) BNL).2.2 [] 0 :=
  bn_open (n := 0) (L := []) (tail := []) (Good.new (by omega) (by omega)) (Logs.nil _) List.nodup_nil (by simp) (by simp) no_take_nil (by simp)
/-- Behind a crash: the first ones, all that are synced among them. -/
theorem BK.crash (h : BK S L k) (hg : Good 1048576 n S) (hl : L.length ≤ 100) (many part : Int) :
    ∃ m, k ≤ m ∧ m ≤ L.length ∧ (bOpen 1048576 (opC S many part) BNL).1 = 0 ∧ (bOpen 1048576 (opC S many part) BNL).2.1 = L.take m := by
  obtain ⟨m, tail, h1, h2, h3, _, h5, h6⟩ := h.kept.crash many part
  rw [single_take] at h1
  rw [single_len] at h2
  obtain ⟨q1, q2, _⟩ := bn_open (hg.opC many part) h1 (nodup_take h.nodup m) (fun t ht => h.short t (List.mem_of_mem_take ht)) (by rw [List.length_take]; omega) h5 h6
  exact ⟨m, h3, h2, q1, q2⟩
/-- A text's number is asked for. -/
theorem BK.id (h : BK S L k) (hg : Good 1048576 n S) (hl : L.length ≤ 100) (ht : t.length ≤ 300) :
    (bId 1048576 S BNL L t).1 = (((findN (bId 1048576 S BNL L t).2.1 t : Nat) : Int), 0) ∧ BK (bId 1048576 S BNL L t).2.2 (bId 1048576 S BNL L t).2.1 k ∧ t ∈ (bId 1048576 S BNL L t).2.1 ∧
      (t ∈ L → (bId 1048576 S BNL L t).2.1 = L) ∧ (t ∉ L → (bId 1048576 S BNL L t).2.1 = L ++ [t]) := by
  unfold bId
  by_cases hm : t ∈ L
  · rw [if_pos hm]
    exact ⟨rfl, h, hm, fun _ => rfl, fun hn => absurd hm hn⟩
  · obtain ⟨e, hB⟩ := h.add hg hl ht hm
    rw [if_neg hm, if_pos e]
    refine ⟨?_, hB, by simp, fun hn => absurd hn hm, fun _ => rfl⟩
    rw [find_new hm]; rfl
end

end Go.Proofs.YtchnbnmajagpjaaGreatDoor
