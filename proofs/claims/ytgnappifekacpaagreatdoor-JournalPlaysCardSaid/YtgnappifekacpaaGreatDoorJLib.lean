/-
  What the walks of layer 6's statements share; what JournalAnew asks, in plain words.
-/
import Derived.Deep.QuietTactic
import Derived.BigQuiet
import Derived.Test.YtgnappifekacpaaGreatDoorJShown
namespace Go.Proofs.YtgnappifekacpaaGreatDoor
open Go.RowKit Go.Shelf Go.Maps

/-! ### the journal of the name log, in a tree with room for 1048576 bytes -/
def LGL : BS := [108, 111, 103]
def LG2 : List BS := [LGL, besideL LGL]
theorem lg_path : pathB LGL = true ∧ pathB (besideL LGL) = true := by decide +kernel
theorem lg_calm : ∀ a ∈ LG2, ∀ b ∈ LG2, way a b = false := by decide +kernel
theorem lg_len : LG2.length < 200 := by decide
theorem lg_in1 : LGL ∈ LG2 := by simp [LG2]
theorem lg_in2 : besideL LGL ∈ LG2 := by simp [LG2]
theorem lg_used {l : Fs} (hs : Srt l) (hk : Keys LG2 l) : used l ≤ (textOf l LGL).length + (textOf l (besideL LGL)).length := by
  have := (keys_sizes hs hk).1
  simpa [LG2] using this
theorem lines_few {l : LL} (h : l.length ≤ 20) (hf : ∀ x ∈ l, Fit x) : (linesOfAll l).length ≤ 260000 := by have := lines_bound hf; omega
theorem lg_anew {S : St} {n : Nat} {all : LL} (hg : Good 1048576 n S) (hk : Keys LG2 S.now) (hu : used S.now ≤ 520200) (hf : ∀ x ∈ all, Fit x) (hl : (linesOfAll all).length ≤ 260200) :
    (jAnew 1048576 S LGL all).1 = 0 ∧ (jAnew 1048576 S LGL all).2.pend = [] ∧ (jAnew 1048576 S LGL all).2.last = (jAnew 1048576 S LGL all).2.now ∧ Keys LG2 (jAnew 1048576 S LGL all).2.now ∧ textOf (jAnew 1048576 S LGL all).2.now LGL = linesOfAll all ∧ look (jAnew 1048576 S LGL all).2.now (besideL LGL) = none := by
  obtain ⟨a1, a2, a3, a4⟩ := anew_ok hg hk lg_calm lg_len lg_in1 lg_in2 lg_path.1 lg_path.2 hf (by omega) (by omega)
  have hs := hg.files.srt
  refine ⟨a1, a2, a3, ?_, ?_, ?_⟩
  · rw [a4]; exact (hk.drp _).put lg_in1 _
  · rw [a4, text_put_same (hs.drp _)]
  · rw [a4, look_put_other (hs.drp _) (Ne.symm (beside_ne _)), look_drp_same]
theorem text_none {l : Fs} {p : BS} (h : look l p = none) : textOf l p = [] := by unfold textOf; rw [h]; rfl
theorem lg_open {S : St} {n : Nat} (hg : Good 1048576 n S) (hk : Keys LG2 S.now) (h1 : (textOf S.now LGL).length ≤ 260200) (h2 : (textOf S.now (besideL LGL)).length ≤ 260200) : Opened LG2 LGL S (jOpen 1048576 S LGL) := by
  have hu := lg_used hg.files.srt hk
  exact open_ok hg hk lg_calm lg_len lg_in1 lg_in2 lg_path.1 lg_path.2 (by omega) (by omega)
theorem short_all {l : Fs} {k : Nat} (h : used l ≤ k) (hk : k ≤ 1000000) (q : BS) : (textOf l q).length ≤ 1000000 := by have := text_used l q; omega

/-- What JournalAnew asks, in plain words. -/
theorem anew_law {old l : LL} (many part : Int) (h1 : old.length ≤ 20) (h2 : l.length ≤ 20) {S0 S1 S2 : St} (e0 : S0 = (0, [], [], [])) (e1 : S1 = (jAnew 1048576 S0 LGL old).2) (c1 : (jAnew 1048576 S0 LGL old).1 = 0) (e2 : S2 = (jAnew 1048576 S1 LGL l).2) (c2 : (jAnew 1048576 S1 LGL l).1 = 0)
    {S5 : St} (e5 : S5 = opC (opN (opW 1048576 S1 (besideL LGL) (linesOfAll l)).2 (besideL LGL) LGL).2 many part) :
    textOf S2.now LGL = linesOfAll l ∧ (linesOfAll l).length ≤ 260000 ∧ (∀ q, (textOf S2.now q).length ≤ 1000000) ∧ (∀ q, (textOf S5.now q).length ≤ 1000000) ∧
    (jOpen 1048576 S2 LGL).1 = l ∧ (jOpen 1048576 S2 LGL).2.1 = 0 ∧ (jOpen 1048576 S5 LGL).2.1 = 0 ∧ (2 ≤ many → (jOpen 1048576 S5 LGL).1 = l) ∧ (¬ 2 ≤ many → (jOpen 1048576 S5 LGL).1 = old) ∧ (opRead (jOpen 1048576 S5 LGL).2.2 (besideL LGL)).2 = 4 := by
  have g0 : Good 1048576 0 S0 := by rw [e0]; exact Good.new (by omega) (by omega)
  obtain ⟨p1, f1, _⟩ := jAnew_did c1
  have b1 := lines_few h1 f1
  obtain ⟨_, a2, a3, a4, a5, a6⟩ := lg_anew g0 (by rw [e0]; exact Keys.nil) (by rw [e0]; decide) f1 (by omega)
  have g1 := g0.jAnew LGL old
  rw [← e1] at a2 a3 a4 a5 a6 g1
  obtain ⟨p2, f2, d1, d2, _⟩ := jAnew_did c2
  have b2 := lines_few h2 f2
  have u1 := lg_used g1.files.srt a4
  rw [a5, text_none a6] at u1
  simp only [List.length_nil] at u1
  obtain ⟨_, x2, x3, x4, x5, x6⟩ := lg_anew g1 a4 (by omega) f2 (by omega)
  have g2 := g1.jAnew LGL l
  rw [← e2] at x2 x3 x4 x5 x6 g2
  have u2 := lg_used g2.files.srt x4
  rw [x5, text_none x6] at u2
  simp only [List.length_nil] at u2
  have g5 : Good 1048576 (0 + 3 + 1 + 1) S5 := by rw [e5]; exact ((g1.opW _ _).opN _ _).opC _ _
  rw [d1, d2] at e5
  obtain ⟨k1, k2, k3, k4⟩ := anew_crash (beside_ne LGL) g1.files.srt a3 a2 a6 (s := linesOfAll l) many part
  rw [← e5] at k1 k2 k3 k4
  rw [a5] at k2
  have ht5 : (textOf S5.now LGL).length ≤ 260000 := by
    by_cases hm : 2 ≤ many
    · rw [k1 hm]; exact b2
    · rw [k2 hm]; exact b1
  have y4 := k4 LG2 a4 lg_in1 lg_in2
  have u5 := lg_used g5.files.srt y4
  have o5 := lg_open g5 y4 (by omega) (by omega)
  have o2 := lg_open g2 x4 (by rw [x5]; omega) (by rw [text_none x6]; simp)
  refine ⟨x5, b2, short_all u2 (by omega), short_all u5 (by omega), ?_, o2.code, o5.code, fun hm => ?_, fun hm => ?_, ?_⟩
  · rw [o2.lists, x5]; exact (lists_lines l f2).1
  · rw [o5.lists, k1 hm]; exact (lists_lines l f2).1
  · rw [o5.lists, k2 hm]; exact (lists_lines old f1).1
  · unfold opRead; rw [o5.beside]

/-! ### in the walks -/
theorem txt_raw (xss : List (List ByteArray)) : LLtxt (rawLL xss) = xss := by
  unfold LLtxt rawLL
  rw [List.map_map]
  conv => rhs; rw [← List.map_id xss]
  exact List.map_congr_left fun x _ => map_raw x
theorem tiny_okb {xss : List (List ByteArray)} (h : tinyB xss = true) : xss.length ≤ maxLen ∧ (∀ xs ∈ xss, xs.length ≤ maxLen ∧ ∀ x ∈ xs, x.size ≤ 1000000) ∧ Mod (rawLL xss) ∧ (rawLL xss).length ≤ 20 := by
  obtain ⟨h1, h2⟩ := tiny_all h
  have h3 : (rawLL xss).length = xss.length := by simp [rawLL]
  refine ⟨by unfold maxLen; omega, fun xs hx => ?_, mod_few (by omega), by omega⟩
  obtain ⟨k1, k2⟩ := h2 xs hx
  exact ⟨by unfold maxLen; omega, fun x hy => by have := k2 x hy; omega⟩
theorem same_at {w9 : World} {u u' : Value} {a b : List (List ByteArray)} {t : Bool} (h : ReadsLL w9 w9.heap.size u a) (h' : ReadsLL w9 w9.heap.size u' b) (hl : a.length ≤ maxLen) (hm : ∀ xs ∈ a, xs.length ≤ maxLen) (ht : decide (a = b) = t) (W : World) (hb : Below w9.heap.size w9 W) :
    Calls Tryz.prog 17 #[u, u'] W fun e w' => e = .returned (.bool t) ∧ Below w9.heap.size w9 w' := by
  have := sameAll_any u u' a b w9.heap.size W (h.below hb (Nat.le_refl _)) (h'.below hb (Nat.le_refl _)) hl hm
  rw [ht] at this
  exact this.mono fun _ _ k => ⟨k.1, hb.trans (k.2.mono hb.size)⟩
theorem shown_at (w W : World) (hb : Below w.heap.size w W) : Calls Tryz.prog 8 #[] W fun e w' => e = .returned (.bool true) ∧ Below w.heap.size w w' :=
  (shown_any W).mono fun _ _ h => ⟨h.1, hb.trans (h.2.mono hb.size)⟩
theorem tiny_at {w : World} {v : Value} {xss : List (List ByteArray)} (hr : ReadsLL w w.heap.size v xss) (hn : xss.length ≤ maxLen) (hm : ∀ l ∈ xss, l.length ≤ maxLen ∧ ∀ x ∈ l, x.size ≤ maxLen) (W : World) (hb : Below w.heap.size w W) :
    Calls Tryz.prog 29 #[v] W fun e w' => e = .returned (.bool (tinyB xss)) ∧ W = w' :=
  tiny_any v xss w.heap.size W (hr.below hb (Nat.le_refl _)) hn hm
/-- What a tree's Read tells; nothing turns. -/
theorem Bx.readB {w W1 W : World} {pb bt bm b : Nat} {Z : Nat → Prop} {room : Int} {l : List Ent} {S : St} (h : Bx w pb bt bm W1 Z room ((false, b, S) :: l) W) (p : ByteArray) (hp : p.size ≤ 1048576) :
    Calls Tryz.prog 32 #[.pointer (some ⟨b, 0, none⟩), .string p] W fun r w' => r = .returned (.tuple #[.string (txt (textOf S.now p.data.toList)), .int .i64 (opRead S p.data.toList).2]) ∧ Below W.heap.size W w' := by
  obtain ⟨X, hX⟩ := h.1.look
  refine (read_tree b X p room S W hX hp).mono fun r w' k => ⟨?_, k.2⟩
  rw [k.1, read_text]

end Go.Proofs.YtgnappifekacpaaGreatDoor
