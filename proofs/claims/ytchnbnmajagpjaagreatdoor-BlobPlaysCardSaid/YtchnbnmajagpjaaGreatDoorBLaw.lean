/-
  What the walks of layer 7's statements share: a store of the name b, its calls in plain words; the statements' own shown. No condition.
-/
import Derived.Deep.QuietTactic
import Derived.BigQuiet
import Derived.Test.YtchnbnmajagpjaaGreatDoorBOpen
namespace Go.Proofs.YtchnbnmajagpjaaGreatDoor
open Go.RowKit Go.Shelf Go.Maps

/-! ### no program -/
/-- A text more, if it is new. -/
def addT (L : List BS) (t : BS) : List BS := if t ∈ L then L else L ++ [t]
theorem addT_mem {L : List BS} {t : BS} (h : t ∈ L) : addT L t = L := by unfold addT; rw [if_pos h]
theorem addT_new {L : List BS} {t : BS} (h : t ∉ L) : addT L t = L ++ [t] := by unfold addT; rw [if_neg h]
theorem addT_self (L : List BS) (t : BS) : t ∈ addT L t := by
  by_cases h : t ∈ L
  · rw [addT_mem h]; exact h
  · rw [addT_new h]; simp
theorem addT_old {L : List BS} {s : BS} (t : BS) (h : s ∈ L) : s ∈ addT L t := by
  by_cases hm : t ∈ L
  · rw [addT_mem hm]; exact h
  · rw [addT_new hm]; exact List.mem_append_left _ h
theorem addT_find {L : List BS} {s : BS} (t : BS) (h : s ∈ L) : findN (addT L t) s = findN L s := by
  by_cases hm : t ∈ L
  · rw [addT_mem hm]
  · rw [addT_new hm, find_app h]
theorem addT_len (L : List BS) (t : BS) : (addT L t).length ≤ L.length + 1 := by
  by_cases hm : t ∈ L
  · rw [addT_mem hm]; omega
  · rw [addT_new hm, List.length_append]; simp
theorem mem_addT {L : List BS} {s t : BS} : s ∈ addT L t ↔ s ∈ L ∨ s = t := by
  by_cases hm : t ∈ L
  · rw [addT_mem hm]
    exact ⟨.inl, fun h => h.elim id (fun e => e ▸ hm)⟩
  · rw [addT_new hm]; simp
/-- The texts that a row of texts gives, in order. -/
def allT (ts : List BS) : List BS := ts.foldl addT []
theorem allT_snoc (ts : List BS) (t : BS) : allT (ts ++ [t]) = addT (allT ts) t := by unfold allT; rw [List.foldl_append]; rfl
theorem mem_foldT {s : BS} : ∀ (ts acc : List BS), s ∈ ts.foldl addT acc ↔ s ∈ acc ∨ s ∈ ts
  | [], acc => by simp
  | t :: r, acc => by
    rw [List.foldl_cons, mem_foldT r, mem_addT]
    simp only [List.mem_cons]
    constructor
    · rintro ((h | h) | h)
      · exact .inl h
      · exact .inr (.inl h)
      · exact .inr (.inr h)
    · rintro (h | h | h)
      · exact .inl (.inl h)
      · exact .inl (.inr h)
      · exact .inr h
theorem mem_allT {ts : List BS} {s : BS} : s ∈ allT ts ↔ s ∈ ts := by unfold allT; rw [mem_foldT]; simp
theorem len_foldT : ∀ (ts acc : List BS), (ts.foldl addT acc).length ≤ acc.length + ts.length
  | [], acc => by simp
  | t :: r, acc => by
    rw [List.foldl_cons]
    have h1 := len_foldT r (addT acc t)
    have h2 := addT_len acc t
    rw [List.length_cons]; omega
theorem len_allT (ts : List BS) : (allT ts).length ≤ ts.length := by have := len_foldT ts []; simpa [allT] using this
theorem allT_next {ts : List BS} {k : Nat} {t : BS} (h : ts[k]? = some t) : allT (ts.take (k + 1)) = addT (allT (ts.take k)) t := by
  rw [List.take_add_one, h]
  exact allT_snoc _ _
theorem raw_next {xs : List ByteArray} {k : Nat} (h : k < xs.length) : (rawOf xs)[k]? = some xs[k].data.toList := by
  unfold rawOf
  rw [List.getElem?_map, List.getElem?_eq_getElem h]; rfl

section
variable {S : St} {L : List BS} {k n : Nat} {t : BS} {room : Int}
/-- How much room a text more asks for. -/
def Roomy (room : Int) (L : List BS) (t : BS) : Prop := 2 * ((linesOfAll (single L)).length : Int) + ((lineOf [t]).length : Int) ≤ room ∧ (linesOfAll (single L)).length ≤ 1000000
theorem roomy_many (h : ∀ t ∈ L, t.length ≤ 300) (hl : L.length ≤ 100) (ht : t.length ≤ 300) : Roomy 1048576 L t := by
  have h1 := lines_single h
  have h2 := (fit_one ht).2
  exact ⟨by omega, by omega⟩
theorem BK.addR (h : BK S L k) (hg : Good room n S) (hl : L.length ≤ 100) (ht : t.length ≤ 300) (hn : t ∉ L) (hr : Roomy room L t) : (jAdd room S BNL [t]).1 = 0 ∧ BK (jAdd room S BNL [t]).2 (L ++ [t]) k := by
  have h1 : Logs BNL S.now (linesOfAll (single L)) := h.kept.now hg
  have h2 := lines_single h.short
  obtain ⟨f1, f2⟩ := fit_one ht
  have hu := bn_used h1.srt h1.keys
  rw [h1.text] at hu
  have hk : Keys BN2 S.now := fun y hy => by
    have := h1.keys y hy
    simp only [List.mem_singleton] at this
    rw [this]; exact bn_in1
  have hlen := (keys_sizes h1.srt h1.keys).2
  simp only [List.length_singleton] at hlen
  have hr1 := hr.1
  have hc : checkC room S.now BNL ((textOf S.now BNL).length + (lineOf [t]).length) = 0 := by
    rw [h1.text]
    exact check_zero bn_path.1 (by omega) (hk.free bn_calm bn_in1) (by omega) (by omega)
  have e : (jAdd room S BNL [t]).1 = 0 := by
    unfold jAdd
    rw [if_pos bn_path.2, if_pos (lineC_fit f1)]
    unfold opA
    rw [if_pos hc]
  refine ⟨e, ?_, nodup_new h.nodup hn, fun s hs => ?_⟩
  · have := h.kept.add e
    rw [single_app]
    exact this
  · rcases List.mem_append.1 hs with hs | hs
    · exact h.short s hs
    · simp at hs; rw [hs]; exact ht
theorem BK.idR (h : BK S L k) (hg : Good room n S) (hl : L.length ≤ 100) (ht : t.length ≤ 300) (hr : Roomy room L t) :
    (bId room S BNL L t).1 = (((findN (addT L t) t : Nat) : Int), 0) ∧ (bId room S BNL L t).2.1 = addT L t ∧ BK (bId room S BNL L t).2.2 (addT L t) k := by
  unfold bId
  by_cases hm : t ∈ L
  · rw [if_pos hm, addT_mem hm]
    exact ⟨rfl, rfl, h⟩
  · obtain ⟨e, hB⟩ := h.addR hg hl ht hm hr
    rw [if_neg hm, if_pos e, addT_new hm]
    refine ⟨?_, rfl, hB⟩
    rw [find_new hm]; rfl
theorem BK.newR (h0 : 1 ≤ room) (h1 : room ≤ 1073741824) : (bOpen room (0, [], [], []) BNL).1 = 0 ∧ (bOpen room (0, [], [], []) BNL).2.1 = [] ∧ BK (bOpen room (0, [], [], []) BNL).2.2 [] 0 := by
  have hg : Good room 0 (0, [], [], []) := Good.new h0 h1
  have hO := open_ok (p := BNL) hg (Ns := BN2) (by intro y hy; cases hy) bn_calm (by decide) bn_in1 bn_in2 bn_path.1 bn_path.2 (by show (0 : Int) + 0 ≤ room; omega) (by show 0 ≤ 16777216; omega)
  have hll : listsOf (textOf ([] : Fs) BNL) = [] := lists_none
  have e1 : (jOpen room (0, [], [], []) BNL).1 = [] := hO.lists.trans hll
  have hb : bOpen room (0, [], [], []) BNL = (0, [], (jOpen room (0, [], [], []) BNL).2.2) := by
    unfold bOpen
    rw [if_pos hO.code, e1]; rfl
  rw [hb]
  have gO := hg.jOpen BNL
  refine ⟨rfl, rfl, ⟨Nat.zero_le _, (by intro x hx; cases hx), ?_, ?_⟩, List.nodup_nil, by simp⟩
  · show Logs BNL (jOpen room (0, [], [], []) BNL).2.2.last _
    rw [hO.last]
    refine ⟨gO.files.srt, fun y hy => ?_, ?_⟩
    · have h1 := hO.keys y hy
      simp only [BN2, List.mem_cons, List.not_mem_nil, or_false] at h1
      rcases h1 with h1 | h1
      · simp [h1]
      · exfalso
        have h2 := look_of_mem gO.files.srt hy
        rw [h1, hO.beside] at h2
        cases h2
    · rw [hO.text]; exact congrArg linesOfAll hll
  · rw [hO.pend]; rfl
theorem BK.texts (h : BK S L k) (hg : Good room n S) (hl : L.length ≤ 100) (q : BS) : (textOf S.now q).length ≤ 900000 := by
  have h1 : Logs BNL S.now (linesOfAll (single L)) := h.kept.now hg
  have h2 := lines_single h.short
  have hu := bn_used h1.srt h1.keys
  rw [h1.text] at hu
  have := text_used S.now q
  omega
end

/-! ### the calls -/
section
variable {w0 w w1 : World} {l : List Own} {sb bt bm pb n k : Nat} {L : List BS} {S : St} {room many part : Int}
theorem In.bkNew (h : In w0 (oTree room bt (0, [], [], []) :: l) w) (h0 : 1 ≤ room) (h1 : room ≤ 1073741824) :
    Calls Tryz.prog 12 #[.pointer (some ⟨bt, 0, none⟩), .string ⟨#[98]⟩] w fun r w' => ∃ sb S', r = .returned (.tuple #[.pointer (some ⟨sb, 0, none⟩), .int .i64 0]) ∧ In w0 (oStore sb bt ⟨#[98]⟩ [] :: oTree room bt S' :: l) w' ∧ BK S' [] 0 ∧ Good room 7 S' := by
  have hg : Good room 0 (0, [], [], []) := Good.new h0 h1
  obtain ⟨e1, e2, e3⟩ := BK.newR h0 h1
  refine (h.bopen hg (by omega) ⟨#[98]⟩ (by decide) (fun q => by show (textOf [] q).length ≤ 900000; simp [textOf, look])).mono fun r w' k => ?_
  rw [show (⟨#[98]⟩ : ByteArray).data.toList = BNL from rfl] at k
  rcases k with ⟨_, sb, k2, k3⟩ | ⟨k1, _⟩
  · rw [e2] at k3
    exact ⟨sb, _, k2, k3, e3, hg.bOpen BNL⟩
  · exact absurd e1 k1
theorem In.bkOpen (h : In w0 (oTree 1048576 bt S :: l) w) (hB : BK S L k) (hg : Good 1048576 n S) (hn : n < 268435200) (hl : L.length ≤ 100) :
    Calls Tryz.prog 12 #[.pointer (some ⟨bt, 0, none⟩), .string ⟨#[98]⟩] w fun r w' => ∃ sb S', r = .returned (.tuple #[.pointer (some ⟨sb, 0, none⟩), .int .i64 0]) ∧ In w0 (oStore sb bt ⟨#[98]⟩ L :: oTree 1048576 bt S' :: l) w' ∧ BK S' L L.length ∧ Good 1048576 (n + 7) S' := by
  obtain ⟨e1, e2, e3⟩ := hB.open hg hl
  refine (h.bopen hg hn ⟨#[98]⟩ (by decide) (hB.texts hg hl)).mono fun r w' k => ?_
  rw [show (⟨#[98]⟩ : ByteArray).data.toList = BNL from rfl] at k
  rcases k with ⟨_, sb, k2, k3⟩ | ⟨k1, _⟩
  · rw [e2] at k3
    exact ⟨sb, _, k2, k3, e3, hg.bOpen BNL⟩
  · exact absurd e1 k1
/-- Behind a crash. -/
theorem In.bkCrashed (h : In w0 (oTree 1048576 bt (opC S many part) :: l) w) (hB : BK S L k) (hg : Good 1048576 n S) (hn : n < 268435200) (hl : L.length ≤ 100) :
    Calls Tryz.prog 12 #[.pointer (some ⟨bt, 0, none⟩), .string ⟨#[98]⟩] w fun r w' => ∃ sb m, r = .returned (.tuple #[.pointer (some ⟨sb, 0, none⟩), .int .i64 0]) ∧ k ≤ m ∧ m ≤ L.length ∧ ∃ S', In w0 (oStore sb bt ⟨#[98]⟩ (L.take m) :: oTree 1048576 bt S' :: l) w' := by
  obtain ⟨m, h1, h2, e1, e2⟩ := hB.crash hg hl many part
  have htx : ∀ q, (textOf (opC S many part).now q).length ≤ 900000 := fun q => by
    obtain ⟨m, tail, k1, k2, k3, _, k5, k6⟩ := hB.kept.crash many part
    have hs : ∀ t ∈ L.take m, t.length ≤ 300 := fun t ht => hB.short t (List.mem_of_mem_take ht)
    rw [single_take] at k1
    have h3 := lines_single hs
    have hu := bn_used k1.srt k1.keys
    rw [k1.text, List.length_append] at hu
    rw [List.length_take] at h3
    have := text_used (opC S many part).now q
    omega
  refine (h.bopen (hg.opC many part) hn ⟨#[98]⟩ (by decide) htx).mono fun r w' k => ?_
  rw [show (⟨#[98]⟩ : ByteArray).data.toList = BNL from rfl] at k
  rcases k with ⟨_, sb, k2, k3⟩ | ⟨k1, _⟩
  · rw [e2] at k3
    exact ⟨sb, m, k2, h1, h2, _, k3⟩
  · exact absurd e1 k1
theorem In.bkId (h : In w0 (oStore sb bt ⟨#[98]⟩ L :: oTree room bt S :: l) w) (hB : BK S L k) (hg : Good room n S) (hn : n < 268435400) (hl : L.length ≤ 100) (t : ByteArray) (ht : t.size ≤ 300) (hr : Roomy room L t.data.toList) :
    Calls Tryz.prog 15 #[.pointer (some ⟨sb, 0, none⟩), .string t] w fun r w' => r = .returned (.tuple #[.int .i64 (findN (addT L t.data.toList) t.data.toList : Nat), .int .i64 0]) ∧
      ∃ S', In w0 (oStore sb bt ⟨#[98]⟩ (addT L t.data.toList) :: oTree room bt S' :: l) w' ∧ BK S' (addT L t.data.toList) k ∧ Good room (n + 1) S' := by
  obtain ⟨e1, e2, e3⟩ := hB.idR hg hl (t := t.data.toList) (by simpa using ht) hr
  refine (h.bid hg hn (by decide) (by omega) t (by omega)).mono fun r w' k => ?_
  rw [show (⟨#[98]⟩ : ByteArray).data.toList = BNL from rfl] at k
  rw [e1, e2] at k
  exact ⟨k.1, _, k.2, e3, hg.bId BNL L t.data.toList⟩
/-- The statements' pair of trees. -/
abbrev oPair (pb bt bm : Nat) : Own := oCells pb [.pointer (some ⟨bt, 0, none⟩), .pointer (some ⟨bm, 0, none⟩)] 28
abbrev pairN (w1 : World) (bt bm : Nat) : World := w1.alloc (.cells #[.pointer (some ⟨bt, 0, none⟩), .pointer (some ⟨bm, 0, none⟩)] 28)
theorem In.pair (h : In w0 l w1) (bt bm : Nat) : In w0 (oPair w1.heap.size bt bm :: l) (pairN w1 bt bm) := h.alloc [.pointer (some ⟨bt, 0, none⟩), .pointer (some ⟨bm, 0, none⟩)] 28
theorem In.pairAt (h : In w0 l w) (hm : oPair pb bt bm ∈ l) : w.cell? ⟨pb, 0, none⟩ = some (.pointer (some ⟨bt, 0, none⟩)) ∧ w.cell? ⟨pb, 1, none⟩ = some (.pointer (some ⟨bm, 0, none⟩)) :=
  ⟨(h.cellAt hm (i := 0) rfl).1, (h.cellAt hm (i := 1) rfl).1⟩
/-- A new pair, with room. -/
theorem begunN (room : Int) (h0 : 1 ≤ room) (h1 : room ≤ 1073741824) (hb : Below w0.heap.size w0 w) :
    Calls Tryz.prog 10 #[.int .i64 room] w fun e w1 => ∃ bt bm, e = .returned (.tuple #[.agg #[.pointer (some ⟨bt, 0, none⟩), .pointer (some ⟨bm, 0, none⟩)], .bool true]) ∧
      In w0 (oTree room bt (0, [], [], []) :: oPair w1.heap.size bt bm :: oRef room bm (0, [], [], []) :: []) (pairN w1 bt bm) :=
  (In.start room h0 h1 (In.nil hb)).mono fun _ _ ⟨bt, bm, k1, k2⟩ => ⟨bt, bm, k1, (k2.pair bt bm).swap⟩
end

/-! ### the chapter's example -/
theorem roomy_a : Roomy 1000 [] [97] := ⟨by decide +kernel, by decide +kernel⟩
theorem roomy_b : Roomy 1000 [[97]] [98] := ⟨by decide +kernel, by decide +kernel⟩
theorem roomy_c : Roomy 1000 [[97], [98]] [97] := ⟨by decide +kernel, by decide +kernel⟩
theorem add_a : addT [] [97] = [[97]] := by decide
theorem add_b : addT [[97]] [98] = [[97], [98]] := by decide
theorem add_c : addT [[97], [98]] [97] = [[97], [98]] := by decide

set_option maxRecDepth 100000 in
set_option maxHeartbeats 4000000 in
theorem shownB_any (w : World) : Calls Tryz.prog 8 #[] w fun e w' => e = .returned (.bool true) ∧ Below w.heap.size w w' := by
  have HN := Lib.hid (begunN (w0 := w) 1000 (by omega) (by omega) (Below.refl _ w))
  go_enter Tryz.func8, Tryz.ntmps8
  go_wp2_with fail
  refine HN.out.mono ?_
  rintro e w1 ⟨bt, bm, rfl, h0⟩
  obtain ⟨c0, c1⟩ := h0.pairAt (pb := w1.heap.size) (bt := bt) (bm := bm) (by simp)
  have HO := Lib.hid (h0.bkNew (by omega) (by omega))
  clear h0
  go_wp2_with fail
  refine HO.out.mono ?_
  rintro e w2 ⟨sb, S1, rfl, h1, hB1, hg1⟩
  have HA := Lib.hid (h1.bkId hB1 hg1 (by omega) (by simp) ⟨#[97]⟩ (by decide) roomy_a)
  rw [show addT [] (⟨#[97]⟩ : ByteArray).data.toList = [[97]] from add_a, show findN [[97]] (⟨#[97]⟩ : ByteArray).data.toList = 1 by decide] at HA
  clear h1 hB1 hg1 HO
  go_wp2_with fail
  refine HA.out.mono ?_
  rintro e w3 ⟨rfl, S2, h2, hB2, hg2⟩
  have HB := Lib.hid (h2.bkId hB2 hg2 (by omega) (by simp) ⟨#[98]⟩ (by decide) roomy_b)
  rw [show addT [[97]] (⟨#[98]⟩ : ByteArray).data.toList = [[97], [98]] from add_b, show findN [[97], [98]] (⟨#[98]⟩ : ByteArray).data.toList = 2 by decide] at HB
  clear h2 hB2 hg2 HA
  go_wp2_with fail
  refine HB.out.mono ?_
  rintro e w4 ⟨rfl, S3, h3, hB3, hg3⟩
  have HC := Lib.hid (h3.bkId hB3 hg3 (by omega) (by simp) ⟨#[97]⟩ (by decide) roomy_c)
  rw [show addT [[97], [98]] (⟨#[97]⟩ : ByteArray).data.toList = [[97], [98]] from add_c, show findN [[97], [98]] (⟨#[97]⟩ : ByteArray).data.toList = 1 by decide] at HC
  clear h3 hB3 hg3 HB
  go_wp2_with fail
  refine HC.out.mono ?_
  rintro e w5 ⟨rfl, S4, h4, _, _⟩
  have HT := Lib.hid (h4.btext (sb := sb) (bt := bt) (p := ⟨#[98]⟩) (L := [[97], [98]]) (by simp) (by simp) 2 (by omega))
  rw [show textAt [[97], [98]] 2 = (⟨#[98]⟩, true) from by decide] at HT
  have HL := Lib.hid (h4.blen (sb := sb) (bt := bt) (p := ⟨#[98]⟩) (L := [[97], [98]]) (by simp))
  have hb := Lib.hid h4.back
  clear h4 HC
  go_wp2_with (first
    | (go_at_call 21; refine HT.out.mono ?_; rintro e w6 ⟨rfl, rfl⟩)
    | (go_at_call 23; refine HL.out.mono ?_; rintro e w7 ⟨rfl, rfl⟩))
  go_ret
  exact ⟨rfl, hb.out⟩
theorem shownB_at (w W : World) (hb : Below w.heap.size w W) : Calls Tryz.prog 8 #[] W fun e w' => e = .returned (.bool true) ∧ Below w.heap.size w w' :=
  (shownB_any W).mono fun _ _ h => ⟨h.1, hb.trans (h.2.mono hb.size)⟩

end Go.Proofs.YtchnbnmajagpjaaGreatDoor
