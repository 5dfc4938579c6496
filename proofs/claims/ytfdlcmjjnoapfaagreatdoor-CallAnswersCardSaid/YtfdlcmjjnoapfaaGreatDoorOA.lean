/-
  The document's own Words as rows told cell by cell; rows of the call's own; what the document's own some, each and join of chapter 10 put together, in plain words. No condition but sizes.
-/
import Derived.Test.YtfdlcmjjnoapfaaGreatDoorNApp
namespace Go.Proofs.YtfdlcmjjnoapfaaGreatDoor
open Go.RowKit Go.Shelf

theorem rwords_told (s : ByteArray) (hs : s.size ≤ 100000) (W : World) :
    Calls Tryz.prog 62 #[.string s] W fun e W' => ∃ o c, e = .returned (.slice o (wordsT s.data.toList).length c) ∧ CellsW W' o c (wordsT s.data.toList) ∧ Below W.heap.size W W' := by
  refine (refWords_any s hs W).mono ?_
  rintro e W' ⟨v, rfl, hr, hb⟩
  obtain ⟨o, c, rfl, hx⟩ := hr.o
  rw [wordsT_of, List.length_map] at hx ⊢
  refine ⟨o, c, rfl, fun k x hk => ?_, hb⟩
  exact hx k (txt x) (by rw [List.getElem?_map, hk]; rfl)
/-- What a call that makes a row tells. -/
def RowPost (l : List BT) (w : World) (e : Ending) (w' : World) : Prop := ∃ o c, e = .returned (.slice o l.length c) ∧ CellsW w' o c l ∧ Below w.heap.size w w'
section
variable {w0 w1 w : World} {v : Value} {l : List BT}
theorem RowS.cells (h : RowS w0 w v l) : ∃ o c, v = .slice o l.length c ∧ CellsW w o c l := by
  obtain ⟨o, c, hv, hx⟩ := h.reads
  rw [List.length_map] at hv hx
  exact ⟨o, c, hv, fun k x hk => hx k (txt x) (by rw [List.getElem?_map, hk]; rfl)⟩
theorem RowS.since (h : RowS w1 w v l) (hb : Below w0.heap.size w0 w1) : RowS w0 w v l :=
  ⟨h.1.wider (fun _ hn => ⟨Nat.le_trans hb.size hn.1, hn.2⟩), hb.trans (h.2.mono hb.size)⟩
theorem RowS.post (h : RowS w1 w v l) (hb : Below w0.heap.size w0 w1) : RowPost l w0 (.returned v) w := by
  obtain ⟨o, c, rfl, hc⟩ := h.cells
  exact ⟨o, c, rfl, hc, hb.trans (h.2.mono hb.size)⟩
end
/-- Cells at any later world, told by how many there are. -/
theorem cells_later {w : World} {o : Option Addr} {c n : Nat} {l : List BT} (h : CellsW w o c l) (hn : n = l.length) :
    Hid (∀ wr, Below w.heap.size w wr → ∀ k x, l[k]? = some x → ∃ b f, o = some ⟨b, f, none⟩ ∧ n ≤ c ∧ wr.cell? ⟨b, f + k, none⟩ = some (.string (txt x))) := fun wr hb k x hx => by
  obtain ⟨b, f, h1, h2, h3, h4⟩ := h.below hb k x hx
  exact ⟨b, f, h1, by rw [hn]; exact h3, h4⟩

/-! ### some -/
def someI (a b : Int) : Nat → List BT → List BT
  | _, [] => []
  | i, x :: r => if a ≤ (i : Int) + 1 ∧ (i : Int) + 1 ≤ b then x :: someI a b (i + 1) r else someI a b (i + 1) r
theorem someI_len (a b : Int) : ∀ (i : Nat) (l : List BT), (someI a b i l).length ≤ l.length
  | _, [] => by simp [someI]
  | i, x :: r => by
    have := someI_len a b (i + 1) r
    unfold someI
    split <;> simp <;> omega
theorem someI_mem (a b : Int) : ∀ (i : Nat) (l : List BT) (x : BT), x ∈ someI a b i l → x ∈ l
  | _, [], x, h => by simp [someI] at h
  | i, y :: r, x, h => by
    unfold someI at h
    split at h
    · rcases List.mem_cons.1 h with rfl | h
      · simp
      · exact List.mem_cons_of_mem _ (someI_mem a b (i + 1) r x h)
    · exact List.mem_cons_of_mem _ (someI_mem a b (i + 1) r x h)
theorem someI_is (a b : Nat) (ha : 1 ≤ a) : ∀ (i : Nat) (l : List BT), someI a b i l = (l.take (b - i)).drop (a - 1 - i)
  | _, [] => by simp [someI]
  | i, x :: r => by
    have ih := someI_is a b ha (i + 1) r
    unfold someI
    by_cases hb : i + 1 ≤ b
    · rw [show b - i = (b - (i + 1)) + 1 by omega, List.take_succ_cons]
      by_cases ha2 : a ≤ i + 1
      · rw [if_pos ⟨by omega, by omega⟩, ih, show a - 1 - i = 0 by omega, show a - 1 - (i + 1) = 0 by omega]
        rfl
      · rw [if_neg (by omega), ih, show a - 1 - i = (a - 1 - (i + 1)) + 1 by omega]
        rfl
    · rw [if_neg (by omega), ih, show b - i = 0 by omega, show b - (i + 1) = 0 by omega]
      simp
theorem someI_N (a b : Nat) (ha : 1 ≤ a) (l : List BT) : someI a b 0 l = someN a b l := by
  rw [someI_is a b ha]; rfl
theorem someI_next {a b : Int} {k : Nat} {l : List BT} {x : BT} (h : l[k]? = some x) : someI a b k (l.drop k) = if a ≤ (k : Int) + 1 ∧ (k : Int) + 1 ≤ b then x :: someI a b (k + 1) (l.drop (k + 1)) else someI a b (k + 1) (l.drop (k + 1)) := by
  obtain ⟨h1, rfl⟩ := List.getElem?_eq_some_iff.1 h
  rw [List.drop_eq_getElem_cons h1]
  rfl

/-! ### each -/
/-- What each puts behind, of one word. -/
def oneE (n a b w : BT) : BT :=
  if n = nStrip then w
  else if n = nPatsubst then substL a b w
  else if n = nFilter then (if anyL (wordsT a) w then w else [])
  else if n = nFilterOut then (if anyL (wordsT a) w then [] else w)
  else if n = nAddsuffix then w ++ a
  else if n = nAddprefix then a ++ w
  else partOf n w
def eachT (n a b : BT) (ws : List BT) : List BT := (ws.map (oneE n a b)).filter fun x => decide (x ≠ [] ∨ n = nPatsubst)
theorem each_next {n a b x : BT} {k : Nat} {ws : List BT} (h : ws[k]? = some x) : eachT n a b (ws.drop k) = (if oneE n a b x ≠ [] ∨ n = nPatsubst then [oneE n a b x] else []) ++ eachT n a b (ws.drop (k + 1)) := by
  obtain ⟨h1, rfl⟩ := List.getElem?_eq_some_iff.1 h
  rw [List.drop_eq_getElem_cons h1]
  unfold eachT
  rw [List.map_cons, List.filter_cons]
  by_cases hc : oneE n a b ws[k] ≠ [] ∨ n = nPatsubst
  · rw [if_pos hc, if_pos (decide_eq_true hc)]; rfl
  · rw [if_neg hc, if_neg (by rw [decide_eq_false hc]; simp)]; rfl
theorem each_done (n a b : BT) {k : Nat} {ws : List BT} (h : ws.length ≤ k) : eachT n a b (ws.drop k) = [] := by
  rw [List.drop_eq_nil_of_le h]; rfl
theorem each_len (n a b : BT) (ws : List BT) : (eachT n a b ws).length ≤ ws.length := by
  unfold eachT
  exact Nat.le_trans (List.length_filter_le _ _) (by simp)

/-! ### join -/
theorem zip_next {a b : List BT} {k : Nat} (h : k < a.length ∨ k < b.length) : zipT (a.drop k) (b.drop k) = (a[k]?.getD [] ++ b[k]?.getD []) :: zipT (a.drop (k + 1)) (b.drop (k + 1)) := by
  by_cases ha : k < a.length
  · by_cases hb : k < b.length
    · rw [List.drop_eq_getElem_cons ha, List.drop_eq_getElem_cons hb]
      simp [zipT, ha, hb]
    · rw [List.drop_eq_getElem_cons ha, List.drop_eq_nil_of_le (by omega : b.length ≤ k), List.drop_eq_nil_of_le (by omega : b.length ≤ k + 1)]
      have e : ∀ l : List BT, zipT l [] = l := fun l => by cases l <;> rfl
      rw [e, e]
      simp [ha, show b[k]? = none from List.getElem?_eq_none (by omega)]
  · have hb : k < b.length := by omega
    rw [List.drop_eq_nil_of_le (by omega : a.length ≤ k), List.drop_eq_nil_of_le (by omega : a.length ≤ k + 1), List.drop_eq_getElem_cons hb]
    simp [zipT, hb, show a[k]? = none from List.getElem?_eq_none (by omega)]
theorem zip_done {a b : List BT} {k : Nat} (ha : a.length ≤ k) (hb : b.length ≤ k) : zipT (a.drop k) (b.drop k) = [] := by
  rw [List.drop_eq_nil_of_le ha, List.drop_eq_nil_of_le hb]; rfl

/-! ### sorted -/
theorem sort_next {w : List BT} {k : Nat} {x : BT} (h : w[k]? = some x) : sortT (w.take (k + 1)) = insT x (sortT (w.take k)) := by
  unfold sortT
  rw [List.take_add_one, h, List.foldl_append]
  rfl
/-- What the inner loop keeps: the word's place is not found yet, or it is. -/
def InsAt (x : BT) (L : List BT) (k : Nat) (done : Bool) (next : List BT) : Prop :=
  (done = false ∧ next = L.take k ∧ insT x L = L.take k ++ insT x (L.drop k)) ∨ (done = true ∧ insT x L = next ++ L.drop k)
theorem ins_start (x : BT) (L : List BT) : InsAt x L 0 false [] := .inl ⟨rfl, rfl, rfl⟩
theorem ins_same {x : BT} {L : List BT} {k : Nat} {d : Bool} {next : List BT} (h : InsAt x L k d next) (hk : L[k]? = some x) : InsAt x L (k + 1) true (next ++ [x]) := by
  obtain ⟨h1, e⟩ := List.getElem?_eq_some_iff.1 hk
  have hd := List.drop_eq_getElem_cons h1
  rw [e] at hd
  rcases h with ⟨rfl, rfl, h⟩ | ⟨rfl, h⟩
  · refine .inr ⟨rfl, ?_⟩
    rw [h, hd]
    simp [insT]
  · refine .inr ⟨rfl, ?_⟩
    rw [h, hd]; simp
theorem ins_less {x y : BT} {L : List BT} {k : Nat} {next : List BT} (h : InsAt x L k false next) (hk : L[k]? = some y) (hne : y ≠ x) (hlt : x < y) : InsAt x L (k + 1) true (next ++ [x] ++ [y]) := by
  obtain ⟨h1, e⟩ := List.getElem?_eq_some_iff.1 hk
  have hd := List.drop_eq_getElem_cons h1
  rw [e] at hd
  rcases h with ⟨-, rfl, h⟩ | ⟨h, -⟩
  · refine .inr ⟨rfl, ?_⟩
    rw [h, hd]
    unfold insT
    rw [if_neg hne, if_pos hlt]
    simp
  · cases h
theorem ins_more {x y : BT} {L : List BT} {k : Nat} {next : List BT} (h : InsAt x L k false next) (hk : L[k]? = some y) (hne : y ≠ x) (hlt : ¬ x < y) : InsAt x L (k + 1) false (next ++ [y]) := by
  obtain ⟨h1, e⟩ := List.getElem?_eq_some_iff.1 hk
  have hd := List.drop_eq_getElem_cons h1
  rw [e] at hd
  rcases h with ⟨-, rfl, h⟩ | ⟨h, -⟩
  · have ht : L.take (k + 1) = L.take k ++ [y] := by rw [List.take_add_one, hk]; rfl
    refine .inl ⟨rfl, ht.symm, ?_⟩
    rw [h, hd, ht]
    conv => lhs; rhs; unfold insT
    rw [if_neg hne, if_neg hlt]
    simp
  · cases h
theorem ins_rest {x y : BT} {L : List BT} {k : Nat} {next : List BT} (h : InsAt x L k true next) (hk : L[k]? = some y) : InsAt x L (k + 1) true (next ++ [y]) := by
  obtain ⟨h1, e⟩ := List.getElem?_eq_some_iff.1 hk
  have hd := List.drop_eq_getElem_cons h1
  rw [e] at hd
  rcases h with ⟨h, -⟩ | ⟨-, h⟩
  · cases h
  · refine .inr ⟨rfl, ?_⟩
    rw [h, hd]; simp
theorem ins_end {x : BT} {L : List BT} {k : Nat} {d : Bool} {next : List BT} (h : InsAt x L k d next) (hk : L.length ≤ k) : insT x L = if d then next else next ++ [x] := by
  rcases h with ⟨rfl, rfl, h⟩ | ⟨rfl, h⟩
  · rw [h, List.drop_eq_nil_of_le hk]; rfl
  · rw [h, List.drop_eq_nil_of_le hk]; simp
end Go.Proofs.YtfdlcmjjnoapfaaGreatDoor
