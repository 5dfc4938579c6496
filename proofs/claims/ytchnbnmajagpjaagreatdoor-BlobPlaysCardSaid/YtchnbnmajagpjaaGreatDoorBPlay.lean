/-
  What BlobPlays' walk keeps: both stores and both trees, with an act: what each call makes of them. No condition.
-/
import Derived.Deep.QuietTactic
import Derived.BigQuiet
import Derived.Test.YtchnbnmajagpjaaGreatDoorBActs
import Derived.Test.YtchnbnmajagpjaaGreatDoorBLaw
import Derived.Test.YtchnbnmajagpjaaGreatDoorBRef4
namespace Go.Proofs.YtchnbnmajagpjaaGreatDoor
open Go.RowKit Go.Shelf Go.Maps

def DBL : BS := [100, 47, 98]
/-- An act of the call's own. -/
abbrev oAct (ab : Nat) (a : ActB) : Own := oCells ab (abCells a) 41
section
variable {w W W' : World} {R : List Own} {bt bm pb sb mb n ab : Nat} {room : Int} {S Sx Sy : St} {L Lx Ly : List BS} {a : ActB}
theorem In.less {l l' : List Own} (h : In w (l ++ l') W) : In w l W := (h.perm List.perm_append_comm).drop
/-- Both stores and both trees. -/
def PA (w : World) (bt bm pb : Nat) (room : Int) (R : List Own) (sb mb : Nat) (Lx Ly : List BS) (Sx Sy : St) (W : World) : Prop :=
  In w ([oStore sb bt ⟨#[100, 47, 98]⟩ Lx, oTree room bt Sx] ++ ([oStoreR mb bm ⟨#[100, 47, 98]⟩ Ly, oRef room bm Sy] ++ (oPair pb bt bm :: R))) W
/-- Both trees. -/
def TA (w : World) (bt bm pb : Nat) (room : Int) (R : List Own) (Sx Sy : St) (W : World) : Prop := In w (oTree room bt Sx :: oRef room bm Sy :: oPair pb bt bm :: R) W
theorem PA.trees (h : PA w bt bm pb room R sb mb Lx Ly Sx Sy W) : TA w bt bm pb room R Sx Sy W := (In.swap (In.tail h)).tail
theorem PA.back (h : PA w bt bm pb room R sb mb Lx Ly Sx Sy W) : Below w.heap.size w W := In.back h
theorem TA.back (h : TA w bt bm pb room R Sx Sy W) : Below w.heap.size w W := In.back h
theorem PA.below (h : PA w bt bm pb room R sb mb Lx Ly Sx Sy W) (hb : Below W.heap.size W W') : PA w bt bm pb room R sb mb Lx Ly Sx Sy W' := In.below h hb
theorem TA.below (h : TA w bt bm pb room R Sx Sy W) (hb : Below W.heap.size W W') : TA w bt bm pb room R Sx Sy W' := In.below h hb
theorem TA.cells (h : TA w bt bm pb room R Sx Sy W) : W.cell? ⟨pb, 0, none⟩ = some (.pointer (some ⟨bt, 0, none⟩)) ∧ W.cell? ⟨pb, 1, none⟩ = some (.pointer (some ⟨bm, 0, none⟩)) :=
  In.pairAt (pb := pb) (bt := bt) (bm := bm) h (by simp)
theorem PA.cells (h : PA w bt bm pb room R sb mb Lx Ly Sx Sy W) : W.cell? ⟨pb, 0, none⟩ = some (.pointer (some ⟨bt, 0, none⟩)) ∧ W.cell? ⟨pb, 1, none⟩ = some (.pointer (some ⟨bm, 0, none⟩)) := h.trees.cells
theorem TA.act (h : TA w bt bm pb room [oAct ab a] Sx Sy W) : W.cell? ⟨ab, 0, none⟩ = some (.int .i64 a.op) ∧ W.cell? ⟨ab, 1, none⟩ = some (.int .i64 a.n) ∧ W.cell? ⟨ab, 2, none⟩ = some (.int .i64 a.m) ∧ W.cell? ⟨ab, 3, none⟩ = some (.string a.text) ∧ W.cell? ⟨ab, 4, none⟩ = some a.lv := by
  have hm : oAct ab a ∈ [oTree room bt Sx, oRef room bm Sy, oPair pb bt bm, oAct ab a] := by simp
  exact ⟨(In.cellAt h hm (i := 0) rfl).1, (In.cellAt h hm (i := 1) rfl).1, (In.cellAt h hm (i := 2) rfl).1, (In.cellAt h hm (i := 3) rfl).1, (In.cellAt h hm (i := 4) rfl).1⟩
theorem PA.act (h : PA w bt bm pb room [oAct ab a] sb mb Lx Ly Sx Sy W) : W.cell? ⟨ab, 0, none⟩ = some (.int .i64 a.op) ∧ W.cell? ⟨ab, 1, none⟩ = some (.int .i64 a.n) ∧ W.cell? ⟨ab, 2, none⟩ = some (.int .i64 a.m) ∧ W.cell? ⟨ab, 3, none⟩ = some (.string a.text) ∧ W.cell? ⟨ab, 4, none⟩ = some a.lv := h.trees.act
/-- An act is made, and is forgotten. -/
theorem PA.make (h : PA w bt bm pb room [] sb mb Lx Ly Sx Sy W) (a : ActB) : PA w bt bm pb room [oAct W.heap.size a] sb mb Lx Ly Sx Sy (W.alloc (.cells #[.int .i64 a.op, .int .i64 a.n, .int .i64 a.m, .string a.text, a.lv] 41)) :=
  (In.alloc h (abCells a) 41).perm (List.perm_append_singleton _ _).symm
theorem PA.forget (h : PA w bt bm pb room R sb mb Lx Ly Sx Sy W) : PA w bt bm pb room [] sb mb Lx Ly Sx Sy W :=
  In.less (l := [oStore sb bt ⟨#[100, 47, 98]⟩ Lx, oTree room bt Sx] ++ ([oStoreR mb bm ⟨#[100, 47, 98]⟩ Ly, oRef room bm Sy] ++ [oPair pb bt bm])) (l' := R) h
theorem TA.forget (h : TA w bt bm pb room R Sx Sy W) : TA w bt bm pb room [] Sx Sy W := In.less (l := [oTree room bt Sx, oRef room bm Sy, oPair pb bt bm]) (l' := R) h

/-! ### both are alike -/
theorem TA.alike (h : TA w bt bm pb room R S S W) (hg : Good room n S) (hn : n < 268435456) :
    Calls Tryz.prog 14 #[.agg #[.pointer (some ⟨bt, 0, none⟩), .pointer (some ⟨bm, 0, none⟩)]] W fun r W' => r = .returned (.bool true) ∧ TA w bt bm pb room R S S W' := In.alike h (by simp) (by simp) hg hn
theorem PA.alike (h : PA w bt bm pb room R sb mb Lx Ly S S W) (hg : Good room n S) (hn : n < 268435456) :
    Calls Tryz.prog 14 #[.agg #[.pointer (some ⟨bt, 0, none⟩), .pointer (some ⟨bm, 0, none⟩)]] W fun r W' => r = .returned (.bool true) ∧ PA w bt bm pb room R sb mb Lx Ly S S W' := In.alike h (by simp) (by simp) hg hn

/-! ### a text's number -/
theorem PA.id1 (h : PA w bt bm pb room R sb mb L L S S W) (hg : Good room n S) (hn : n < 268435400) (hL : L.length < 1000000) (t : ByteArray) (ht : t.size ≤ 1000000) :
    Calls Tryz.prog 15 #[.pointer (some ⟨sb, 0, none⟩), .string t] W fun r W' => r = .returned (.tuple #[.int .i64 (bId room S DBL L t.data.toList).1.1, .int .i64 (bId room S DBL L t.data.toList).1.2]) ∧
      PA w bt bm pb room R sb mb (bId room S DBL L t.data.toList).2.1 L (bId room S DBL L t.data.toList).2.2 S W' :=
  In.bid h hg hn (by decide) hL t ht
theorem PA.turn (h : PA w bt bm pb room R sb mb Lx Ly Sx Sy W) : In w ([oStoreR mb bm ⟨#[100, 47, 98]⟩ Ly, oRef room bm Sy] ++ ([oStore sb bt ⟨#[100, 47, 98]⟩ Lx, oTree room bt Sx] ++ (oPair pb bt bm :: R))) W :=
  In.perm h (List.perm_append_comm_assoc _ _ _)
theorem PA.unturn (h : In w ([oStoreR mb bm ⟨#[100, 47, 98]⟩ Ly, oRef room bm Sy] ++ ([oStore sb bt ⟨#[100, 47, 98]⟩ Lx, oTree room bt Sx] ++ (oPair pb bt bm :: R))) W) : PA w bt bm pb room R sb mb Lx Ly Sx Sy W :=
  In.perm h (List.perm_append_comm_assoc _ _ _)
theorem PA.id2 (h : PA w bt bm pb room R sb mb Lx L Sx S W) (hg : Good room n S) (hn : n < 268435400) (hL : L.length < 1000000) (t : ByteArray) (ht : t.size ≤ 1000000) :
    Calls Tryz.prog 16 #[.pointer (some ⟨mb, 0, none⟩), .string t] W fun r W' => r = .returned (.tuple #[.int .i64 (bId room S DBL L t.data.toList).1.1, .int .i64 (bId room S DBL L t.data.toList).1.2]) ∧
      PA w bt bm pb room R sb mb Lx (bId room S DBL L t.data.toList).2.1 Sx (bId room S DBL L t.data.toList).2.2 W' :=
  (In.rbid (h.turn) hg hn (by decide) hL t ht).mono fun _ _ k => ⟨k.1, PA.unturn k.2⟩

/-! ### what is told -/
theorem PA.text1 (h : PA w bt bm pb room R sb mb Lx Ly Sx Sy W) (hL : Lx.length < 1073741824) (i : Int) (hi : -9223372036854775808 ≤ i ∧ i ≤ 9223372036854775807) :
    Calls Tryz.prog 21 #[.pointer (some ⟨sb, 0, none⟩), .int .i64 i] W fun e W' => e = .returned (.tuple #[.string (textAt Lx i).1, .bool (textAt Lx i).2]) ∧ W = W' := In.btext (bt := bt) (p := ⟨#[100, 47, 98]⟩) h (by simp) hL i hi
theorem PA.text2 (h : PA w bt bm pb room R sb mb Lx Ly Sx Sy W) (hL : Ly.length < 1073741824) (i : Int) (hi : -9223372036854775808 ≤ i ∧ i ≤ 9223372036854775807) :
    Calls Tryz.prog 22 #[.pointer (some ⟨mb, 0, none⟩), .int .i64 i] W fun e W' => e = .returned (.tuple #[.string (textAt Ly i).1, .bool (textAt Ly i).2]) ∧ W = W' := In.rtext (b := bm) (p := ⟨#[100, 47, 98]⟩) h (by simp) hL i hi
theorem PA.find1 (h : PA w bt bm pb room R sb mb Lx Ly Sx Sy W) (s : ByteArray) (hs : s.size ≤ maxLen) :
    Calls Tryz.prog 24 #[.pointer (some ⟨sb, 0, none⟩), .string s] W fun e W' => e = .returned (.int .i64 (findN Lx s.data.toList : Nat)) ∧ W = W' := In.bfind (bt := bt) (p := ⟨#[100, 47, 98]⟩) h (by simp) s hs
theorem PA.find2 (h : PA w bt bm pb room R sb mb Lx Ly Sx Sy W) (hL : Ly.length < 1073741824) (s : ByteArray) :
    Calls Tryz.prog 25 #[.pointer (some ⟨mb, 0, none⟩), .string s] W fun e W' => e = .returned (.int .i64 (findN Ly s.data.toList : Nat)) ∧ W = W' := In.rfind (b := bm) (p := ⟨#[100, 47, 98]⟩) h (by simp) hL s
theorem PA.len1 (h : PA w bt bm pb room R sb mb Lx Ly Sx Sy W) :
    Calls Tryz.prog 23 #[.pointer (some ⟨sb, 0, none⟩)] W fun e W' => e = .returned (.int .i64 Lx.length) ∧ W = W' := In.blen (bt := bt) (p := ⟨#[100, 47, 98]⟩) h (by simp)
theorem PA.refL (h : PA w bt bm pb room R sb mb Lx Ly Sx Sy W) : ∃ o c, W.cell? ⟨mb, 2, none⟩ = some (.slice o Ly.length c) := by
  obtain ⟨v, h1⟩ := (In.only h (e := oStoreR mb bm ⟨#[100, 47, 98]⟩ Ly) (by simp)).rstore
  obtain ⟨o, c, rfl, _⟩ := textsAt h1 (v := v) (L := Ly) (by simp)
  exact ⟨o, c, (h1.cellsR (sb := mb) (bm := bm) (p := ⟨#[100, 47, 98]⟩) (v := .slice o Ly.length c) (by simp)).2.2.1⟩

/-! ### what is done to the trees -/
theorem TA.crash1 (h : TA w bt bm pb room R S Sy W) (hg : Good room n S) (many part : Int) (hp : part < 9223372036854775808) :
    Calls Tryz.prog 17 #[.pointer (some ⟨bt, 0, none⟩), .int .i64 many, .int .i64 part] W fun r W' => r = .returned (.tuple #[]) ∧ TA w bt bm pb room R (opC S many part) Sy W' := In.crash h hg many part hp
theorem TA.crash2 (h : TA w bt bm pb room R Sx S W) (hg : Good room n S) (many part : Int) (hp : part < 9223372036854775808) :
    Calls Tryz.prog 18 #[.pointer (some ⟨bm, 0, none⟩), .int .i64 many, .int .i64 part] W fun r W' => r = .returned (.tuple #[]) ∧ TA w bt bm pb room R Sx (opC S many part) W' :=
  (In.rcrash (In.swap h) hg many part hp).mono fun _ _ k => ⟨k.1, k.2.swap⟩
theorem TA.add1 (h : TA w bt bm pb room R S Sy W) (hg : Good room n S) (hn : n < 268435400) (v : Value) (xs : List ByteArray) (hr : ReadsO w w.heap.size v xs) (hm : xs.length ≤ maxLen ∧ ∀ x ∈ xs, x.size ≤ 1000000) :
    Calls Tryz.prog 19 #[.pointer (some ⟨bt, 0, none⟩), .string ⟨#[100, 47, 98]⟩, v] W fun r W' => r = .returned (.int .i64 (jAdd room S DBL (rawOf xs)).1) ∧ TA w bt bm pb room R (jAdd room S DBL (rawOf xs)).2 Sy W' :=
  In.jadd h hg hn ⟨#[100, 47, 98]⟩ (by decide) v xs (hr.below h.back h.back.size) hm
theorem TA.add2 (h : TA w bt bm pb room R Sx S W) (hg : Good room n S) (hn : n < 268435400) (v : Value) (xs : List ByteArray) (hr : ReadsO w w.heap.size v xs) (hm : xs.length ≤ maxLen ∧ ∀ x ∈ xs, x.size ≤ 1000000) :
    Calls Tryz.prog 20 #[.pointer (some ⟨bm, 0, none⟩), .string ⟨#[100, 47, 98]⟩, v] W fun r W' => r = .returned (.int .i64 (jAdd room S DBL (rawOf xs)).1) ∧ TA w bt bm pb room R Sx (jAdd room S DBL (rawOf xs)).2 W' :=
  (In.rjadd (In.swap h) hg hn ⟨#[100, 47, 98]⟩ (by decide) v xs (hr.below h.back h.back.size) hm).mono fun _ _ k => ⟨k.1, k.2.swap⟩

/-! ### opened again -/
/-- Behind the first open, and behind both. -/
def MA (w : World) (bt bm pb : Nat) (room : Int) (R : List Own) (c : Int) (L : List BS) (sv : Option Addr) (Sx Sy : St) (W : World) : Prop :=
  (c = 0 ∧ ∃ sb, sv = some ⟨sb, 0, none⟩ ∧ In w (oStore sb bt ⟨#[100, 47, 98]⟩ L :: oTree room bt Sx :: oRef room bm Sy :: oPair pb bt bm :: R) W) ∨ (c ≠ 0 ∧ sv = none ∧ TA w bt bm pb room R Sx Sy W)
def FA (w : World) (bt bm pb : Nat) (room : Int) (R : List Own) (c : Int) (L : List BS) (sv mv : Option Addr) (S : St) (W : World) : Prop :=
  (c = 0 ∧ ∃ sb mb, sv = some ⟨sb, 0, none⟩ ∧ mv = some ⟨mb, 0, none⟩ ∧ PA w bt bm pb room R sb mb L L S S W) ∨ (c ≠ 0 ∧ sv = none ∧ mv = none ∧ TA w bt bm pb room R S S W)
theorem MA.cells {c : Int} {sv : Option Addr} (h : MA w bt bm pb room R c L sv Sx Sy W) : W.cell? ⟨pb, 0, none⟩ = some (.pointer (some ⟨bt, 0, none⟩)) ∧ W.cell? ⟨pb, 1, none⟩ = some (.pointer (some ⟨bm, 0, none⟩)) := by
  rcases h with ⟨_, sb, _, h⟩ | ⟨_, _, h⟩
  · exact h.pairAt (pb := pb) (bt := bt) (bm := bm) (by simp)
  · exact h.cells
theorem FA.forget {c : Int} {sv mv : Option Addr} (h : FA w bt bm pb room R c L sv mv S W) : FA w bt bm pb room [] c L sv mv S W := by
  rcases h with ⟨h1, sb, mb, h2, h3, h4⟩ | ⟨h1, h2, h3, h4⟩
  · exact .inl ⟨h1, sb, mb, h2, h3, h4.forget⟩
  · exact .inr ⟨h1, h2, h3, h4.forget⟩
theorem FA.cells {c : Int} {sv mv : Option Addr} (h : FA w bt bm pb room R c L sv mv S W) : W.cell? ⟨pb, 0, none⟩ = some (.pointer (some ⟨bt, 0, none⟩)) ∧ W.cell? ⟨pb, 1, none⟩ = some (.pointer (some ⟨bm, 0, none⟩)) := by
  rcases h with ⟨_, sb, mb, _, _, h⟩ | ⟨_, _, _, h⟩
  · exact h.cells
  · exact h.cells
theorem TA.open1 (h : TA w bt bm pb room R S Sy W) (hg : Good room n S) (hn : n < 268435200) (hr : room ≤ 50000) :
    Calls Tryz.prog 12 #[.pointer (some ⟨bt, 0, none⟩), .string ⟨#[100, 47, 98]⟩] W fun r W' => ∃ sv, r = .returned (.tuple #[.pointer sv, .int .i64 (bOpen room S DBL).1]) ∧ MA w bt bm pb room R (bOpen room S DBL).1 (bOpen room S DBL).2.1 sv (bOpen room S DBL).2.2 Sy W' := by
  refine (In.bopen h hg hn ⟨#[100, 47, 98]⟩ (by decide) (fun q => by have := text_used S.now q; have := hg.files.fit; omega)).mono fun r W' k => ?_
  rw [show (⟨#[100, 47, 98]⟩ : ByteArray).data.toList = DBL from rfl] at k
  rcases k with ⟨k1, sb, rfl, k3⟩ | ⟨k1, rfl, k3⟩
  · exact ⟨_, by rw [k1], .inl ⟨k1, sb, rfl, k3⟩⟩
  · exact ⟨_, rfl, .inr ⟨k1, rfl, k3⟩⟩
theorem MA.open2 {sv : Option Addr} (h : MA w bt bm pb room R (bOpen room S DBL).1 (bOpen room S DBL).2.1 sv (bOpen room S DBL).2.2 S W) (hg : Good room n S) (hn : n < 268435200) (hr : room ≤ 50000) :
    Calls Tryz.prog 13 #[.pointer (some ⟨bm, 0, none⟩), .string ⟨#[100, 47, 98]⟩] W fun r W' => ∃ mv, r = .returned (.tuple #[.pointer mv, .int .i64 (bOpen room S DBL).1]) ∧ FA w bt bm pb room R (bOpen room S DBL).1 (bOpen room S DBL).2.1 sv mv (bOpen room S DBL).2.2 W' := by
  have ht : ∀ q, (textOf S.now q).length ≤ 100000 := fun q => by have := text_used S.now q; have := hg.files.fit; omega
  rcases h with ⟨h1, sb, h2, h3⟩ | ⟨h1, h2, h3⟩
  · refine (In.rbopen h3.third hg hn ⟨#[100, 47, 98]⟩ (by decide) ht).mono fun r W' k => ?_
    rw [show (⟨#[100, 47, 98]⟩ : ByteArray).data.toList = DBL from rfl] at k
    rcases k with ⟨k1, mb, rfl, k3⟩ | ⟨k1, _, _⟩
    · exact ⟨_, by rw [k1], .inl ⟨k1, sb, mb, h2, rfl, PA.unturn k3⟩⟩
    · exact absurd h1 k1
  · refine (In.rbopen (In.swap h3) hg hn ⟨#[100, 47, 98]⟩ (by decide) ht).mono fun r W' k => ?_
    rw [show (⟨#[100, 47, 98]⟩ : ByteArray).data.toList = DBL from rfl] at k
    rcases k with ⟨k1, _, _, _⟩ | ⟨k1, rfl, k3⟩
    · exact absurd k1 h1
    · exact ⟨_, rfl, .inr ⟨k1, h2, rfl, k3.swap⟩⟩
/-- As many texts as there may be. -/
theorem bOpen_len (hg : Good room n S) (hr : room ≤ 50000) : (bOpen room S DBL).2.1.length ≤ 50000 := by
  obtain ⟨s, hs, hls⟩ := told_lists (room := room) hg DBL (M := 50000) (fun q => by have := text_used S.now q; have := hg.files.fit; omega)
  have h1 := lists_count s
  have h2 := (keeps_prefix (jOpen room S DBL).1).1
  rw [hls] at h2
  unfold bOpen
  split
  · split
    · show (keepsOf (jOpen room S DBL).1).length ≤ _; rw [hls]; omega
    · show (keepsOf (jOpen room S DBL).1).length ≤ _; rw [hls]; omega
  · simp
theorem bId_len (room : Int) (S : St) (p : BS) (L : List BS) (t : BS) : (bId room S p L t).2.1.length ≤ L.length + 1 := by
  unfold bId
  split
  · simp
  · split
    · simp
    · simp
/-- Both opens, with letters for what they come to. -/
theorem TA.opens (w : World) (bt bm pb : Nat) (R : List Own) (hg : Good room n S) (hn : n < 268435200) (hr : room ≤ 50000) : ∃ c L S', Good room (n + 7) S' ∧ L.length ≤ 50000 ∧
    (∀ W, TA w bt bm pb room R S S W → Calls Tryz.prog 12 #[.pointer (some ⟨bt, 0, none⟩), .string ⟨#[100, 47, 98]⟩] W fun r W' => ∃ sv, r = .returned (.tuple #[.pointer sv, .int .i64 c]) ∧ MA w bt bm pb room R c L sv S' S W') ∧
    (∀ sv W, MA w bt bm pb room R c L sv S' S W → Calls Tryz.prog 13 #[.pointer (some ⟨bm, 0, none⟩), .string ⟨#[100, 47, 98]⟩] W fun r W' => ∃ mv, r = .returned (.tuple #[.pointer mv, .int .i64 c]) ∧ FA w bt bm pb room R c L sv mv S' W') :=
  ⟨_, _, _, hg.bOpen DBL, bOpen_len hg hr, fun _ h => h.open1 hg hn hr, fun _ _ h => h.open2 hg hn hr⟩
/-- Both numbers of a text, likewise. -/
theorem PA.ids (w : World) (bt bm pb : Nat) (R : List Own) (sb mb : Nat) (hg : Good room n S) (hn : n < 268435400) (hL : L.length < 1000000) (t : ByteArray) (ht : t.size ≤ 1000000) : ∃ x g L' S', Good room (n + 1) S' ∧ L'.length ≤ L.length + 1 ∧
    (∀ W, PA w bt bm pb room R sb mb L L S S W → Calls Tryz.prog 15 #[.pointer (some ⟨sb, 0, none⟩), .string t] W fun r W' => r = .returned (.tuple #[.int .i64 x, .int .i64 g]) ∧ PA w bt bm pb room R sb mb L' L S' S W') ∧
    (∀ W, PA w bt bm pb room R sb mb L' L S' S W → Calls Tryz.prog 16 #[.pointer (some ⟨mb, 0, none⟩), .string t] W fun r W' => r = .returned (.tuple #[.int .i64 x, .int .i64 g]) ∧ PA w bt bm pb room R sb mb L' L' S' S' W') :=
  ⟨_, _, _, _, hg.bId DBL L t.data.toList, bId_len room S DBL L t.data.toList, fun _ h => h.id1 hg hn hL t ht, fun _ h => h.id2 hg hn hL t ht⟩
end

end Go.Proofs.YtchnbnmajagpjaaGreatDoor
