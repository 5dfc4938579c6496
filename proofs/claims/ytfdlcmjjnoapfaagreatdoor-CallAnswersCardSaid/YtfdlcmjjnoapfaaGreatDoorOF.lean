/-
  What the document's own answer of chapter 10 comes to, in plain words; Join over a row that was told; the arguments, cell by cell. No condition but sizes.
-/
import Derived.Test.YtfdlcmjjnoapfaaGreatDoorOE
import Derived.Test.YtfdlcmjjnoapfaaGreatDoorOC
import Derived.Test.YtfdlcmjjnoapfaaGreatDoorOJ
namespace Go.Proofs.YtfdlcmjjnoapfaaGreatDoor
open Go.RowKit Go.Shelf

theorem rjoin_told (l : List BT) (o : Option Addr) (c : Nat) (w : World) (h : CellsW w o c l) (hn : l.length ≤ 10000) (hl : ∀ x ∈ l, x.length ≤ 10000) :
    Calls Tryz.prog 25 #[.slice o l.length c] w fun e w' => e = .returned (.string (txt (joinT l))) ∧ w = w' := refJoin_any _ l w h.reads hn hl
theorem args_at {w : World} {o : Option Addr} {c : Nat} {xs : List BT} (h : CellsW w o c xs) (hx : xs ≠ []) : ∃ g f, o = some ⟨g, f, none⟩ ∧ xs.length ≤ c ∧ ∀ W, Below w.heap.size w W → ∀ k x, xs[k]? = some x → W.cell? ⟨g, f + k, none⟩ = some (.string (txt x)) := by
  obtain ⟨x0, r, rfl⟩ := List.exists_cons_of_ne_nil hx
  obtain ⟨g, f, rfl, h2, h3, h4⟩ := h 0 x0 rfl
  refine ⟨g, f, rfl, h3, fun W hb k x hk => ?_⟩
  obtain ⟨g', f', e, h2', h3', h4'⟩ := h.below hb k x hk
  cases e
  exact h4'
theorem args1 {w : World} {o : Option Addr} {c : Nat} {a : BT} (h : CellsW w o c [a]) : ∃ g f, o = some ⟨g, f, none⟩ ∧ 1 ≤ c ∧ Hid (∀ W, Below w.heap.size w W → W.cell? ⟨g, f, none⟩ = some (.string (txt a))) := by
  obtain ⟨g, f, e, hc, hx⟩ := args_at h (by simp)
  exact ⟨g, f, e, hc, fun W hb => hx W hb 0 _ rfl⟩
theorem args2 {w : World} {o : Option Addr} {c : Nat} {a b : BT} (h : CellsW w o c [a, b]) : ∃ g f, o = some ⟨g, f, none⟩ ∧ 2 ≤ c ∧ Hid (∀ W, Below w.heap.size w W → W.cell? ⟨g, f, none⟩ = some (.string (txt a)) ∧ W.cell? ⟨g, f + 1, none⟩ = some (.string (txt b))) := by
  obtain ⟨g, f, e, hc, hx⟩ := args_at h (by simp)
  exact ⟨g, f, e, hc, fun W hb => ⟨hx W hb 0 _ rfl, hx W hb 1 _ rfl⟩⟩
theorem args3 {w : World} {o : Option Addr} {c : Nat} {a b d : BT} (h : CellsW w o c [a, b, d]) : ∃ g f, o = some ⟨g, f, none⟩ ∧ 3 ≤ c ∧ Hid (∀ W, Below w.heap.size w W → W.cell? ⟨g, f, none⟩ = some (.string (txt a)) ∧ W.cell? ⟨g, f + 1, none⟩ = some (.string (txt b)) ∧ W.cell? ⟨g, f + 2, none⟩ = some (.string (txt d))) := by
  obtain ⟨g, f, e, hc, hx⟩ := args_at h (by simp)
  exact ⟨g, f, e, hc, fun W hb => ⟨hx W hb 0 _ rfl, hx W hb 1 _ rfl, hx W hb 2 _ rfl⟩⟩
theorem rwords_toldT (t : BT) (hs : t.length ≤ 100000) (W : World) :
    Calls Tryz.prog 62 #[.string (txt t)] W fun e W' => ∃ o c, e = .returned (.slice o (wordsT t).length c) ∧ CellsW W' o c (wordsT t) ∧ Below W.heap.size W W' := by
  have := rwords_told (txt t) (by rw [txt_size]; exact hs) W
  rw [txt_data] at this
  exact this
/-- What answer tells: a text, and whether the arguments are right. -/
def AnsPost (r : Option BT) (w : World) (e : Ending) (w' : World) : Prop :=
  Below w.heap.size w w' ∧ ((∃ s, r = some s ∧ e = .returned (.tuple #[.string (txt s), .bool true])) ∨ ∃ s, r = none ∧ e = .returned (.tuple #[.string (txt s), .bool false]))
theorem ans_ok {r : Option BT} {s : BT} {w w' : World} (h : r = some s) (hb : Below w.heap.size w w') : AnsPost r w (.returned (.tuple #[.string (txt s), .bool true])) w' := ⟨hb, .inl ⟨s, h, rfl⟩⟩
theorem ans_no {r : Option BT} {s : BT} {w w' : World} (h : r = none) (hb : Below w.heap.size w w') : AnsPost r w (.returned (.tuple #[.string (txt s), .bool false])) w' := ⟨hb, .inr ⟨s, h, rfl⟩⟩
theorem numV_nn (l : BT) : 0 ≤ numV l := by
  unfold numV
  split
  · next h =>
    have : allB digB l = true := by simp [numB] at h; exact h.2
    exact (numVal_bd l this).1
  · exact Int.le_refl _
/-- Is a text a number, and not below a least one? -/
def okN (a : BT) (least : Int) : Bool := numB (trimOf a) && decide (least ≤ numV (trimOf a))
theorem word_yes {a b t : BT} (ha : okN a 1 = true) (hb : okN b 0 = true) : wordT a b t = some (joinT (someI (numV (trimOf a)) (numV (trimOf b)) 0 (wordsT t))) := by
  unfold okN at ha hb
  simp only [Bool.and_eq_true, decide_eq_true_eq] at ha hb
  unfold wordT
  rw [if_pos ⟨ha.1, hb.1, ha.2⟩]
  have e1 : ((numV (trimOf a)).toNat : Int) = numV (trimOf a) := Int.toNat_of_nonneg (by omega)
  have e2 : ((numV (trimOf b)).toNat : Int) = numV (trimOf b) := Int.toNat_of_nonneg hb.2
  conv => rhs; rw [← e1, ← e2]
  rw [someI_N _ _ (by omega)]
theorem word_no {a b t : BT} (h : okN a 1 = false ∨ okN b 0 = false) : wordT a b t = none := by
  unfold wordT
  refine if_neg fun hh => ?_
  obtain ⟨h1, h2, h3⟩ := hh
  have h4 := numV_nn (trimOf b)
  unfold okN at h
  simp [h1, h2] at h
  omega
theorem okN_less {a : BT} (h : okN a 1 = true) : okN a 0 = true := by
  unfold okN at h ⊢
  simp only [Bool.and_eq_true, decide_eq_true_eq] at h ⊢
  exact ⟨h.1, by omega⟩
theorem first_is (w : List BT) : someI 1 1 0 w = w.take 1 := by
  have := someI_N 1 1 (by omega) w
  unfold someN at this
  simpa using this
theorem last_is (w : List BT) : someI (w.length : Int) (w.length : Int) 0 w = w.drop (w.length - 1) := by
  cases w with
  | nil => rfl
  | cons x r =>
    rw [someI_N _ _ (by simp)]
    unfold someN
    rw [List.take_of_length_le (Nat.le_refl _)]
theorem ref_number (a : BT) (least : Int) (ha : a.length ≤ 100000) (w : World) : Calls Tryz.prog 67 #[.string (txt a), .int .i64 least] w fun e w' =>
    e = .returned (.tuple #[.int .i64 (numV (trimOf a)), .bool (okN a least)]) ∧ w = w' := by
  have := number10_any (txt a) least (by rw [txt_size]; omega) w
  rw [txt_data] at this
  exact this
theorem ref_some (a b : Int) (t : BT) (ht : t.length ≤ 10000) (w : World) : Calls Tryz.prog 68 #[.int .i64 a, .int .i64 b, .string (txt t)] w (RowPost (someI a b 0 (wordsT t)) w) := by
  have := some10_any a b (txt t) (by rw [txt_size]; omega) w
  rw [txt_data] at this
  exact this
theorem ref_zip (a b : BT) (ha : a.length ≤ 10000) (hb : b.length ≤ 10000) (w : World) : Calls Tryz.prog 70 #[.string (txt a), .string (txt b)] w (RowPost (zipT (wordsT a) (wordsT b)) w) := by
  have := join10_any (txt a) (txt b) (by rw [txt_size]; omega) (by rw [txt_size]; omega) w
  rw [txt_data, txt_data] at this
  exact this
theorem ref_each (s : ByteArray) (a b t : BT) (ha : a.length ≤ 1000) (hb : b.length ≤ 1000) (ht : t.length ≤ 1000) (w : World) : Calls Tryz.prog 64 #[.string s, .string (txt a), .string (txt b), .string (txt t)] w (RowPost (eachT s.data.toList a b (wordsT t)) w) := by
  have := each10_any s (txt a) (txt b) (txt t) (by rw [txt_size]; omega) (by rw [txt_size]; omega) (by rw [txt_size]; omega) w
  rw [txt_data, txt_data, txt_data] at this
  exact this
theorem ref_subst (a b t : BT) (ha : a.length ≤ 1000) (hb : b.length ≤ 1000) (ht : t.length ≤ 1000) (w : World) : Calls Tryz.prog 63 #[.string (txt a), .string (txt b), .string (txt t)] w fun e w' => e = .returned (.string (txt (subT a b t))) ∧ w = w' := by
  have := subst10_any (txt a) (txt b) (txt t) (by rw [txt_size]; omega) (by rw [txt_size]; omega) (by rw [txt_size]; omega) w
  rw [txt_data, txt_data, txt_data] at this
  exact this
theorem ref_found (a t : BT) (ha : a.length ≤ 1000) (ht : t.length ≤ 1000) (w : World) : Calls Tryz.prog 65 #[.string (txt a), .string (txt t)] w fun e w' => e = .returned (.bool (foundB a t)) ∧ w = w' := by
  have := found10_any (txt a) (txt t) (by rw [txt_size]; omega) (by rw [txt_size]; omega) w
  rw [txt_data, txt_data] at this
  exact this
/-- Rows that are short enough to be joined. -/
def Short (l : List BT) : Prop := l.length ≤ 10000 ∧ ∀ x ∈ l, x.length ≤ 10000
theorem short_words {t : BT} (h : t.length ≤ 1000) : Short (wordsT t) := ⟨by have := words_few t; omega, fun x hx => by have := (words_memT hx).2; omega⟩
theorem short_some {t : BT} (h : t.length ≤ 1000) (a b : Int) : Short (someI a b 0 (wordsT t)) :=
  ⟨Nat.le_trans (someI_len a b 0 _) (short_words h).1, fun x hx => (short_words h).2 x (someI_mem a b 0 _ x hx)⟩
theorem short_sort {t : BT} (h : t.length ≤ 1000) : Short (sortT (wordsT t)) := ⟨Nat.le_trans (sort_len _) (short_words h).1, fun x hx => (short_words h).2 x ((sort_mem _ x).1 hx)⟩
theorem short_zip {a b : BT} (ha : a.length ≤ 1000) (hb : b.length ≤ 1000) : Short (zipT (wordsT a) (wordsT b)) :=
  ⟨by have := zip_len (wordsT a) (wordsT b); have := words_few a; have := words_few b; omega, fun x hx => by
    have := zip_mem 1000 (fun w hw => by have := (words_memT hw).2; omega) (fun w hw => by have := (words_memT hw).2; omega) hx
    omega⟩
theorem short_each {t a b : BT} (n : BT) (h : t.length ≤ 1000) (ha : a.length ≤ 1000) (hb : b.length ≤ 1000) : Short (eachT n a b (wordsT t)) :=
  ⟨Nat.le_trans (each_len _ _ _ _) (short_words h).1, fun x hx => by
    obtain ⟨w, hw, rfl⟩ := each_mem hx
    have h1 := one_len n a b w
    have h2 := (words_memT hw).2
    omega⟩
theorem Short.told {l : List BT} (h : Short l) {r : BT} (hr : r = joinT l) : Hid (∀ o c W, CellsW W o c l → Calls Tryz.prog 25 #[.slice o l.length c] W fun e w' => e = .returned (.string (txt r)) ∧ W = w') := fun o c W hc => by
  rw [hr]
  exact rjoin_told l o c W hc h.1 h.2
end Go.Proofs.YtfdlcmjjnoapfaaGreatDoor
