/-
  The document's own Join and subst, for longer texts. No condition but sizes.
  Rows of words that were told, cell by cell. No condition.
  The document's own Words as rows told cell by cell; rows of the call's own; what the document's own some, each and join of chapter 10 put together, in plain words. No condition but sizes.
  What the document's own each of chapter 10 puts together is what list tells, in plain words; how long it is. No program.
  What the document's own some, sorted and join of chapter 10 answer. For texts of at most ten thousand bytes. No condition.
  What the document's own join of chapter 10 answer. For texts of at most ten thousand bytes. No condition.
  What the document's own each of chapter 10 puts together. For texts of at most a thousand bytes. No condition.
  What the document's own answer of chapter 10 comes to, in plain words; Join over a row that was told; the arguments, cell by cell. No condition but sizes.
  What the document's own answer of chapter 10 tells. For texts of at most a thousand bytes. No condition.
  What the document's own Call of chapter 10 answers, for every name and all arguments of at most a thousand bytes. No condition.
-/
import Derived.Deep.QuietTactic
import Derived.BigQuiet
import Derived.WalkSpells
import Derived.Deep.RegionHeld3
import Derived.Test.YtbngoodjgijmgaaGreatDoorHX
import Derived.Test.YtbngoodjgijmgaaGreatDoorNC
namespace Go.Proofs.YtbngoodjgijmgaaGreatDoor
open Go.RowKit Go.Shelf
attribute [local go_sem] Oper.semAt_some

set_option maxRecDepth 100000 in
set_option maxHeartbeats 2000000 in
/-- The document's own Join of chapter 1. -/
theorem refJoin_big (v : Value) (xs : List BT) (w : World) (hr : ReadsO w w.heap.size v (xs.map txt)) (hn : xs.length ≤ 10000) (hl : ∀ x ∈ xs, x.length ≤ 20000) : Calls Tryz.prog 80 #[v] w fun e w' => e = .returned (.string (txt (joinT xs))) ∧ w = w' := by
  obtain ⟨o, c, rfl, hx⟩ := hr
  rw [List.length_map] at hx ⊢
  obtain ⟨n, hnn⟩ : ∃ n, n = xs.length := ⟨_, rfl⟩
  rw [← hnn] at hx hn ⊢
  have HX : Hid (∀ k x, xs[k]? = some x → ∃ b f, o = some ⟨b, f, none⟩ ∧ n ≤ c ∧ w.cell? ⟨b, f + k, none⟩ = some (.string (txt x))) := fun k x hk => by
    obtain ⟨b, f, h1, h2, h3, h4⟩ := hx k (txt x) (by rw [List.getElem?_map, hk]; rfl)
    exact ⟨b, f, h1, h3, h4⟩
  have HN := Lib.hid hnn
  have HL := Lib.hid hl
  clear hx hnn hl
  go_enter Tryz.func80, Tryz.ntmps80
  go_wp2
  go_loop [3, 4] (fun sv iv => ∃ (k : Nat), k ≤ n ∧ iv = .int .i64 k ∧ sv = .string (txt (joinT (xs.take k))) ∧ (joinT (xs.take k)).length ≤ k * 20001) (fun _ iv => n - (intOf iv).toNat)
  case atStart => exact ⟨0, Nat.zero_le _, rfl, rfl, by simp [joinT, Lib.join]⟩
  case round =>
    obtain ⟨k, hk, rfl, rfl, hjl⟩ := hrel
    by_cases hkn : k < n
    · obtain ⟨x, hxk⟩ : ∃ x, xs[k]? = some x := ⟨xs[k]'(by rw [← HN.out]; exact hkn), List.getElem?_eq_getElem _⟩
      obtain ⟨b, f, rfl, hnc, hcell⟩ := HX.out k x hxk
      have hxl : x.length ≤ 20000 := HL.out x (List.mem_of_getElem? hxk)
      have HJ : Hid (joinT (xs.take (k + 1)) = if k = 0 then x else joinT (xs.take k) ++ [32] ++ x) := by
        show _ = _
        have ht : xs.take (k + 1) = xs.take k ++ [x] := by rw [List.take_add_one, hxk]; rfl
        rw [ht, joinT_snoc]
        by_cases hk0 : k = 0
        · rw [if_pos hk0, if_pos (by rw [hk0]; rfl)]
        · rw [if_neg hk0, if_neg (fun h => by
            have h1 := congrArg List.length h
            rw [List.length_take, List.length_nil, ← HN.out] at h1
            omega)]
      obtain ⟨J, hJ⟩ : ∃ J, J = joinT (xs.take k) := ⟨_, rfl⟩
      rw [← hJ] at hjl HJ ⊢
      clear hJ hxk
      by_cases hk0 : k = 0
      · have HJ2 : Hid (joinT (xs.take (k + 1)) = J ++ x) := by
          show _ = _
          have hJ0 : J = [] := List.eq_nil_of_length_eq_zero (by rw [hk0] at hjl; omega)
          rw [HJ.out, if_pos hk0, hJ0]; rfl
        have h0 : ¬ (0 : Int) < (k : Int) := by omega
        have hcat : (txt J ++ txt x).size ≤ 2000000000 := by rw [ByteArray.size_append, txt_size, txt_size]; omega
        clear hk0 HJ
        go_wp2
        go_round
        case rel => exact ⟨k + 1, hkn, by go_num, by rw [HJ2.out, txt_app], by rw [HJ2.out, List.length_append]; omega⟩
        case measure => simp [intOf]; omega
      · have HJ2 : Hid (joinT (xs.take (k + 1)) = J ++ [32] ++ x) := by
          show _ = _
          rw [HJ.out, if_neg hk0]
        have h0 : (0 : Int) < (k : Int) := by omega
        have hc1 : (txt J ++ ⟨#[32]⟩).size ≤ 1000000000 := by rw [ByteArray.size_append, txt_size]; show J.length + 1 ≤ _; omega
        have hcat : (txt J ++ ⟨#[32]⟩ ++ txt x).size ≤ 2000000000 := by rw [ByteArray.size_append, txt_size]; omega
        clear hk0 HJ
        go_wp2
        go_round
        case rel => exact ⟨k + 1, hkn, by go_num, by rw [HJ2.out, ← txt_app, ← txt_app]; rfl, by rw [HJ2.out]; simp only [List.length_append, List.length_cons, List.length_nil]; omega⟩
        case measure => simp [intOf]; omega
    · have hkn' : k = n := by omega
      subst hkn'
      have HE : Hid (xs.take k = xs) := List.take_of_length_le (by rw [← HN.out]; exact Nat.le_refl _)
      go_wp2
      go_ret
      exact ⟨by rw [HE.out]; rfl, rfl⟩
set_option maxRecDepth 100000 in
set_option maxHeartbeats 4000000 in
theorem subst10_big (a b t : ByteArray) (ha : a.size ≤ 4000) (hb : b.size ≤ 4000) (ht : t.size ≤ 4000) (w : World) : Calls Tryz.prog 145 #[.string a, .string b, .string t] w fun e w' => e = .returned (.string (txt (subT a.data.toList b.data.toList t.data.toList))) ∧ w = w' := by
  by_cases h0 : a.toList = []
  · have HV : Hid (subT a.data.toList b.data.toList t.data.toList = t.data.toList) := by
      show _ = _
      rw [Lib.toList_data] at h0
      unfold subT
      rw [if_pos h0]
    go_enter Tryz.func145, Tryz.ntmps145
    go_wp2
    go_ret
    exact ⟨by rw [HV.out, txt_toList]; rfl, rfl⟩
  have h1 : a.toList.isEmpty = false := by simpa using h0
  have hne : a.data.toList ≠ [] := by rw [Lib.toList_data] at h0; exact h0
  have hap : 0 < a.size := by rw [← size_list]; exact List.length_pos_iff.2 hne
  have HV : Hid (subT a.data.toList b.data.toList t.data.toList = subGo a.data.toList b.data.toList 0 t.data.toList) := by
    show _ = _
    unfold subT
    rw [if_neg hne]
  have HNe := Lib.hid hne
  clear h0 hne
  go_enter Tryz.func145, Tryz.ntmps145
  go_wp2
  go_loop [7, 8] (fun o i => ∃ (k : Nat) (out : BT), k ≤ t.size ∧ i = .int .i64 k ∧ o = .string (txt out) ∧ out.length ≤ k * 4001 ∧ subGo a.data.toList b.data.toList 0 t.data.toList = out ++ subGo a.data.toList b.data.toList 0 (t.data.toList.drop k)) (fun _ i => t.size - (intOf i).toNat)
  case atStart => exact ⟨0, [], Nat.zero_le _, rfl, rfl, Nat.zero_le _, by simp⟩
  case round =>
    obtain ⟨k, out, hk, rfl, rfl, hol, hS⟩ := hrel
    have HS := Lib.hid hS
    clear hS
    have hos : (txt out).size = out.length := txt_size out
    by_cases hlt : k < t.size
    · have hge : t.data.toList.drop k = t[k] :: t.data.toList.drop (k + 1) := List.drop_eq_getElem_cons (by rw [size_list]; exact hlt)
      by_cases hp : a.data.toList.isPrefixOf (t.data.toList.drop k) = true
      · have hfit := prefix_at a.data.toList t.data.toList k hp (by rw [size_list]; omega)
        rw [size_list, size_list] at hfit
        have heq := part_eq a t k hfit
        rw [hp] at heq
        have c0 : (k : Int) + (a.size : Int) ≤ (t.size : Int) := by omega
        have c1 : (k : Int) ≤ (k : Int) + (a.size : Int) := by omega
        have c2 : (0 : Int) ≤ (k : Int) + (a.size : Int) := by omega
        have HS2 : Hid (subGo a.data.toList b.data.toList 0 t.data.toList = (out ++ b.data.toList) ++ subGo a.data.toList b.data.toList 0 (t.data.toList.drop (k + a.size))) := by
          show _ = _
          rw [HS.out, sub_hit HNe.out hp, List.drop_drop, List.append_assoc, size_list]
        have hcat : (txt out ++ b).size ≤ 32000000 := by rw [ByteArray.size_append, txt_size]; omega
        clear hp hge
        go_wp2
        go_round
        case rel => exact ⟨k + a.size, out ++ b.data.toList, hfit, by go_num, by rw [← txt_app, txt_toList], by rw [List.length_append, size_list]; omega, HS2.out⟩
        case measure => simp [intOf]; omega
      · have hp' : a.data.toList.isPrefixOf (t.data.toList.drop k) = false := Bool.eq_false_iff.2 hp
        have HS2 : Hid (subGo a.data.toList b.data.toList 0 t.data.toList = (out ++ [t[k]]) ++ subGo a.data.toList b.data.toList 0 (t.data.toList.drop (k + 1))) := by
          show _ = _
          rw [hge] at hp'
          rw [HS.out, hge, sub_miss hp', List.append_assoc]; rfl
        have hone := extract_one' t k hlt
        have hcat : (txt out ++ txt [t[k]]).size ≤ 32000000 := by rw [ByteArray.size_append, txt_size, txt_size]; simp; omega
        by_cases hfit : k + a.size ≤ t.size
        · have heq := part_eq a t k hfit
          rw [hp'] at heq
          have c0 : (k : Int) + (a.size : Int) ≤ (t.size : Int) := by omega
          have c1 : (k : Int) ≤ (k : Int) + (a.size : Int) := by omega
          have c2 : (0 : Int) ≤ (k : Int) + (a.size : Int) := by omega
          clear hp hp' hge
          go_wp2
          go_round
          case rel => exact ⟨k + 1, out ++ [t[k]], hlt, by go_num, by rw [← txt_app], by rw [List.length_append]; simp; omega, HS2.out⟩
          case measure => simp [intOf]; omega
        · have c0 : ¬ (k : Int) + (a.size : Int) ≤ (t.size : Int) := by omega
          clear hp hp' hge
          go_wp2
          go_round
          case rel => exact ⟨k + 1, out ++ [t[k]], hlt, by go_num, by rw [← txt_app], by rw [List.length_append]; simp; omega, HS2.out⟩
          case measure => simp [intOf]; omega
    · have HE : Hid (subT a.data.toList b.data.toList t.data.toList = out) := by
        show _ = _
        rw [HV.out, HS.out, List.drop_eq_nil_of_le (by rw [size_list]; omega), sub_done, List.append_nil]
      go_wp2
      go_ret
      exact ⟨by rw [HE.out]; rfl, rfl⟩
end Go.Proofs.YtbngoodjgijmgaaGreatDoor

namespace Go.Proofs.YtbngoodjgijmgaaGreatDoor
open Go.RowKit Go.Shelf

/-- The slice's cells hold the texts. -/
def CellsW (W : World) (o : Option Addr) (c : Nat) (l : List BT) : Prop :=
  ∀ k x, l[k]? = some x → ∃ b f, o = some ⟨b, f, none⟩ ∧ b < W.heap.size ∧ l.length ≤ c ∧ W.cell? ⟨b, f + k, none⟩ = some (.string (txt x))
theorem CellsW.below {W W' : World} {o : Option Addr} {c : Nat} {l : List BT} (h : CellsW W o c l) (hb : Below W.heap.size W W') : CellsW W' o c l := fun k x hk => by
  obtain ⟨b, f, h1, h2, h3, h4⟩ := h k x hk
  exact ⟨b, f, h1, Nat.lt_of_lt_of_le h2 hb.size, h3, (hb.cell (p := ⟨b, f + k, none⟩) h2).trans h4⟩
theorem CellsW.reads {W : World} {o : Option Addr} {c : Nat} {l : List BT} (h : CellsW W o c l) : ReadsO W W.heap.size (.slice o l.length c) (l.map txt) :=
  ⟨o, c, by rw [List.length_map], fun k x hk => by
    rw [List.getElem?_map] at hk
    obtain ⟨y, hy, rfl⟩ := Option.map_eq_some_iff.1 hk
    obtain ⟨b, f, h1, h2, h3, h4⟩ := h k y hy
    exact ⟨b, f, h1, h2, by rw [List.length_map]; exact h3, h4⟩⟩
theorem words_toldO (s : ByteArray) (hs : s.size ≤ 8796093022207) (W : World) :
    Calls Tryz.prog 100 #[.string s] W fun e W' => ∃ o c, e = .returned (.slice o (wordsT s.data.toList).length c) ∧ CellsW W' o c (wordsT s.data.toList) ∧ Below W.heap.size W W' := by
  refine (words_any s hs W).mono ?_
  rintro e W' ⟨v, rfl, hr, hb⟩
  obtain ⟨o, c, rfl, hx⟩ := hr.o
  rw [wordsT_of, List.length_map] at hx ⊢
  refine ⟨o, c, rfl, fun k x hk => ?_, hb⟩
  exact hx k (txt x) (by rw [List.getElem?_map, hk]; rfl)
theorem words_toldT (t : BT) (hs : t.length ≤ 8796093022207) (W : World) :
    Calls Tryz.prog 100 #[.string (txt t)] W fun e W' => ∃ o c, e = .returned (.slice o (wordsT t).length c) ∧ CellsW W' o c (wordsT t) ∧ Below W.heap.size W W' := by
  have := words_toldO (txt t) (by rw [txt_size]; exact hs) W
  rw [txt_data] at this
  exact this
theorem bytesLess_lt : ∀ a b : BT, Op.bytesLess a b = decide (a < b)
  | [], [] => by simp [Op.bytesLess]
  | [], _ :: _ => by simp [Op.bytesLess]
  | _ :: _, [] => by simp [Op.bytesLess]
  | a :: r, b :: s => by
    rw [Op.bytesLess, bytesLess_lt r s, Bool.eq_iff_iff]
    simp [List.cons_lt_cons_iff]
theorem less_no {a b : BT} (h : b < a) : Op.bytesLess (txt a).toList (txt b).toList = false := by
  rw [bytesLess_lt, txt_toL, txt_toL]
  exact decide_eq_false fun h' => bt_irrefl a (bt_trans h' h)
theorem tq_t {a b : BT} (h : a = b) : ((txt a).toList == (txt b).toList) = true := by rw [h]; simp
theorem tq_f {a b : BT} (h : a ≠ b) : ((txt a).toList == (txt b).toList) = false := by rw [txt_toL, txt_toL, beq_eq_false_iff_ne]; exact h
theorem tn_t {a b : BT} (h : a ≠ b) : ((txt a).toList != (txt b).toList) = true := by rw [bne, tq_f h]; rfl
theorem tn_f {a b : BT} (h : a = b) : ((txt a).toList != (txt b).toList) = false := by rw [bne, tq_t h]; rfl
end Go.Proofs.YtbngoodjgijmgaaGreatDoor

namespace Go.Proofs.YtbngoodjgijmgaaGreatDoor
open Go.RowKit Go.Shelf

theorem rwords_told (s : ByteArray) (hs : s.size ≤ 100000) (W : World) :
    Calls Tryz.prog 51 #[.string s] W fun e W' => ∃ o c, e = .returned (.slice o (wordsT s.data.toList).length c) ∧ CellsW W' o c (wordsT s.data.toList) ∧ Below W.heap.size W W' := by
  refine (refWords_any s hs W).mono ?_
  rintro e W' ⟨v, rfl, hr, hb⟩
  obtain ⟨o, c, rfl, hx⟩ := hr.o
  rw [wordsT_of, List.length_map] at hx ⊢
  refine ⟨o, c, rfl, fun k x hk => ?_, hb⟩
  exact hx k (txt x) (by rw [List.getElem?_map, hk]; rfl)
/-- What a call that makes a row tells. -/
def RowPost (l : List BT) (w : World) (e : Ending) (w' : World) : Prop := ∃ o c, e = .returned (.slice o l.length c) ∧ CellsW w' o c l ∧ Below w.heap.size w w'
section
variable {w0 w1 w : World} {v : Value} {l : List BT}
theorem RowS.cells (h : RowS w0 w v l) : ∃ o c, v = .slice o l.length c ∧ CellsW w o c l := by
  obtain ⟨o, c, hv, hx⟩ := h.reads
  rw [List.length_map] at hv hx
  exact ⟨o, c, hv, fun k x hk => hx k (txt x) (by rw [List.getElem?_map, hk]; rfl)⟩
theorem RowS.since (h : RowS w1 w v l) (hb : Below w0.heap.size w0 w1) : RowS w0 w v l :=
  ⟨h.1.wider (fun _ hn => ⟨Nat.le_trans hb.size hn.1, hn.2⟩), hb.trans (h.2.mono hb.size)⟩
theorem RowS.post (h : RowS w1 w v l) (hb : Below w0.heap.size w0 w1) : RowPost l w0 (.returned v) w := by
  obtain ⟨o, c, rfl, hc⟩ := h.cells
  exact ⟨o, c, rfl, hc, hb.trans (h.2.mono hb.size)⟩
end
/-- Cells at any later world, told by how many there are. -/
theorem cells_later {w : World} {o : Option Addr} {c n : Nat} {l : List BT} (h : CellsW w o c l) (hn : n = l.length) :
    Hid (∀ wr, Below w.heap.size w wr → ∀ k x, l[k]? = some x → ∃ b f, o = some ⟨b, f, none⟩ ∧ n ≤ c ∧ wr.cell? ⟨b, f + k, none⟩ = some (.string (txt x))) := fun wr hb k x hx => by
  obtain ⟨b, f, h1, h2, h3, h4⟩ := h.below hb k x hx
  exact ⟨b, f, h1, by rw [hn]; exact h3, h4⟩

/-! ### some -/
def someI (a b : Int) : Nat → List BT → List BT
  | _, [] => []
  | i, x :: r => if a ≤ (i : Int) + 1 ∧ (i : Int) + 1 ≤ b then x :: someI a b (i + 1) r else someI a b (i + 1) r
theorem someI_len (a b : Int) : ∀ (i : Nat) (l : List BT), (someI a b i l).length ≤ l.length
  | _, [] => by simp [someI]
  | i, x :: r => by
    have := someI_len a b (i + 1) r
    unfold someI
    split <;> simp <;> omega
theorem someI_mem (a b : Int) : ∀ (i : Nat) (l : List BT) (x : BT), x ∈ someI a b i l → x ∈ l
  | _, [], x, h => by simp [someI] at h
  | i, y :: r, x, h => by
    unfold someI at h
    split at h
    · rcases List.mem_cons.1 h with rfl | h
      · simp
      · exact List.mem_cons_of_mem _ (someI_mem a b (i + 1) r x h)
    · exact List.mem_cons_of_mem _ (someI_mem a b (i + 1) r x h)
theorem someI_is (a b : Nat) (ha : 1 ≤ a) : ∀ (i : Nat) (l : List BT), someI a b i l = (l.take (b - i)).drop (a - 1 - i)
  | _, [] => by simp [someI]
  | i, x :: r => by
    have ih := someI_is a b ha (i + 1) r
    unfold someI
    by_cases hb : i + 1 ≤ b
    · rw [show b - i = (b - (i + 1)) + 1 by omega, List.take_succ_cons]
      by_cases ha2 : a ≤ i + 1
      · rw [if_pos ⟨by omega, by omega⟩, ih, show a - 1 - i = 0 by omega, show a - 1 - (i + 1) = 0 by omega]
        rfl
      · rw [if_neg (by omega), ih, show a - 1 - i = (a - 1 - (i + 1)) + 1 by omega]
        rfl
    · rw [if_neg (by omega), ih, show b - i = 0 by omega, show b - (i + 1) = 0 by omega]
      simp
theorem someI_N (a b : Nat) (ha : 1 ≤ a) (l : List BT) : someI a b 0 l = someN a b l := by
  rw [someI_is a b ha]; rfl
theorem someI_next {a b : Int} {k : Nat} {l : List BT} {x : BT} (h : l[k]? = some x) : someI a b k (l.drop k) = if a ≤ (k : Int) + 1 ∧ (k : Int) + 1 ≤ b then x :: someI a b (k + 1) (l.drop (k + 1)) else someI a b (k + 1) (l.drop (k + 1)) := by
  obtain ⟨h1, rfl⟩ := List.getElem?_eq_some_iff.1 h
  rw [List.drop_eq_getElem_cons h1]
  rfl

/-! ### each -/
/-- What each puts behind, of one word. -/
def oneE (n a b w : BT) : BT :=
  if n = nStrip then w
  else if n = nPatsubst then substL a b w
  else if n = nFilter then (if anyL (wordsT a) w then w else [])
  else if n = nFilterOut then (if anyL (wordsT a) w then [] else w)
  else if n = nAddsuffix then w ++ a
  else if n = nAddprefix then a ++ w
  else partOf n w
def eachT (n a b : BT) (ws : List BT) : List BT := (ws.map (oneE n a b)).filter fun x => decide (x ≠ [] ∨ n = nPatsubst)
theorem each_next {n a b x : BT} {k : Nat} {ws : List BT} (h : ws[k]? = some x) : eachT n a b (ws.drop k) = (if oneE n a b x ≠ [] ∨ n = nPatsubst then [oneE n a b x] else []) ++ eachT n a b (ws.drop (k + 1)) := by
  obtain ⟨h1, rfl⟩ := List.getElem?_eq_some_iff.1 h
  rw [List.drop_eq_getElem_cons h1]
  unfold eachT
  rw [List.map_cons, List.filter_cons]
  by_cases hc : oneE n a b ws[k] ≠ [] ∨ n = nPatsubst
  · rw [if_pos hc, if_pos (decide_eq_true hc)]; rfl
  · rw [if_neg hc, if_neg (by rw [decide_eq_false hc]; simp)]; rfl
theorem each_done (n a b : BT) {k : Nat} {ws : List BT} (h : ws.length ≤ k) : eachT n a b (ws.drop k) = [] := by
  rw [List.drop_eq_nil_of_le h]; rfl
theorem each_len (n a b : BT) (ws : List BT) : (eachT n a b ws).length ≤ ws.length := by
  unfold eachT
  exact Nat.le_trans (List.length_filter_le _ _) (by simp)

/-! ### join -/
theorem zip_next {a b : List BT} {k : Nat} (h : k < a.length ∨ k < b.length) : zipT (a.drop k) (b.drop k) = (a[k]?.getD [] ++ b[k]?.getD []) :: zipT (a.drop (k + 1)) (b.drop (k + 1)) := by
  by_cases ha : k < a.length
  · by_cases hb : k < b.length
    · rw [List.drop_eq_getElem_cons ha, List.drop_eq_getElem_cons hb]
      simp [zipT, ha, hb]
    · rw [List.drop_eq_getElem_cons ha, List.drop_eq_nil_of_le (by omega : b.length ≤ k), List.drop_eq_nil_of_le (by omega : b.length ≤ k + 1)]
      have e : ∀ l : List BT, zipT l [] = l := fun l => by cases l <;> rfl
      rw [e, e]
      simp [ha, show b[k]? = none from List.getElem?_eq_none (by omega)]
  · have hb : k < b.length := by omega
    rw [List.drop_eq_nil_of_le (by omega : a.length ≤ k), List.drop_eq_nil_of_le (by omega : a.length ≤ k + 1), List.drop_eq_getElem_cons hb]
    simp [zipT, hb, show a[k]? = none from List.getElem?_eq_none (by omega)]
theorem zip_done {a b : List BT} {k : Nat} (ha : a.length ≤ k) (hb : b.length ≤ k) : zipT (a.drop k) (b.drop k) = [] := by
  rw [List.drop_eq_nil_of_le ha, List.drop_eq_nil_of_le hb]; rfl

/-! ### sorted -/
theorem sort_next {w : List BT} {k : Nat} {x : BT} (h : w[k]? = some x) : sortT (w.take (k + 1)) = insT x (sortT (w.take k)) := by
  unfold sortT
  rw [List.take_add_one, h, List.foldl_append]
  rfl
/-- What the inner loop keeps: the word's place is not found yet, or it is. -/
def InsAt (x : BT) (L : List BT) (k : Nat) (done : Bool) (next : List BT) : Prop :=
  (done = false ∧ next = L.take k ∧ insT x L = L.take k ++ insT x (L.drop k)) ∨ (done = true ∧ insT x L = next ++ L.drop k)
theorem ins_start (x : BT) (L : List BT) : InsAt x L 0 false [] := .inl ⟨rfl, rfl, rfl⟩
theorem ins_same {x : BT} {L : List BT} {k : Nat} {d : Bool} {next : List BT} (h : InsAt x L k d next) (hk : L[k]? = some x) : InsAt x L (k + 1) true (next ++ [x]) := by
  obtain ⟨h1, e⟩ := List.getElem?_eq_some_iff.1 hk
  have hd := List.drop_eq_getElem_cons h1
  rw [e] at hd
  rcases h with ⟨rfl, rfl, h⟩ | ⟨rfl, h⟩
  · refine .inr ⟨rfl, ?_⟩
    rw [h, hd]
    simp [insT]
  · refine .inr ⟨rfl, ?_⟩
    rw [h, hd]; simp
theorem ins_less {x y : BT} {L : List BT} {k : Nat} {next : List BT} (h : InsAt x L k false next) (hk : L[k]? = some y) (hne : y ≠ x) (hlt : x < y) : InsAt x L (k + 1) true (next ++ [x] ++ [y]) := by
  obtain ⟨h1, e⟩ := List.getElem?_eq_some_iff.1 hk
  have hd := List.drop_eq_getElem_cons h1
  rw [e] at hd
  rcases h with ⟨-, rfl, h⟩ | ⟨h, -⟩
  · refine .inr ⟨rfl, ?_⟩
    rw [h, hd]
    unfold insT
    rw [if_neg hne, if_pos hlt]
    simp
  · cases h
theorem ins_more {x y : BT} {L : List BT} {k : Nat} {next : List BT} (h : InsAt x L k false next) (hk : L[k]? = some y) (hne : y ≠ x) (hlt : ¬ x < y) : InsAt x L (k + 1) false (next ++ [y]) := by
  obtain ⟨h1, e⟩ := List.getElem?_eq_some_iff.1 hk
  have hd := List.drop_eq_getElem_cons h1
  rw [e] at hd
  rcases h with ⟨-, rfl, h⟩ | ⟨h, -⟩
  · have ht : L.take (k + 1) = L.take k ++ [y] := by rw [List.take_add_one, hk]; rfl
    refine .inl ⟨rfl, ht.symm, ?_⟩
    rw [h, hd, ht]
    conv => lhs; rhs; unfold insT
    rw [if_neg hne, if_neg hlt]
    simp
  · cases h
theorem ins_rest {x y : BT} {L : List BT} {k : Nat} {next : List BT} (h : InsAt x L k true next) (hk : L[k]? = some y) : InsAt x L (k + 1) true (next ++ [y]) := by
  obtain ⟨h1, e⟩ := List.getElem?_eq_some_iff.1 hk
  have hd := List.drop_eq_getElem_cons h1
  rw [e] at hd
  rcases h with ⟨h, -⟩ | ⟨-, h⟩
  · cases h
  · refine .inr ⟨rfl, ?_⟩
    rw [h, hd]; simp
theorem ins_end {x : BT} {L : List BT} {k : Nat} {d : Bool} {next : List BT} (h : InsAt x L k d next) (hk : L.length ≤ k) : insT x L = if d then next else next ++ [x] := by
  rcases h with ⟨rfl, rfl, h⟩ | ⟨rfl, h⟩
  · rw [h, List.drop_eq_nil_of_le hk]; rfl
  · rw [h, List.drop_eq_nil_of_le hk]; simp
end Go.Proofs.YtbngoodjgijmgaaGreatDoor

namespace Go.Proofs.YtbngoodjgijmgaaGreatDoor

theorem substL_len (a b x : BT) : (substL a b x).length ≤ x.length + b.length := by
  have h1 := match_len a x
  unfold substL
  split
  · unfold fillL
    split
    · next ho =>
      have := open_lens ho
      rw [List.length_append, List.length_append]
      omega
    · omega
  · omega
theorem ne_all {l : List BT} (h : ∀ x ∈ l, x ≠ []) : neT l = l := by
  unfold neT
  rw [List.filter_eq_self]
  exact fun x hx => decide_eq_true (h x hx)
theorem ne_if (p : BT → Bool) : ∀ ws : List BT, (∀ w ∈ ws, w ≠ []) → neT (ws.map fun w => if p w then w else []) = ws.filter p
  | [], _ => rfl
  | w :: r, h => by
    have ih := ne_if p r fun x hx => h x (List.mem_cons_of_mem _ hx)
    have hw := h w (by simp)
    unfold neT at ih ⊢
    rw [List.map_cons, List.filter_cons, List.filter_cons, ih]
    cases hp : p w with
    | true => simp [hw]
    | false => simp
theorem each_map {n a b : BT} {ws : List BT} (f : BT → BT) (hp : n ≠ nPatsubst) (he : ∀ w, oneE n a b w = f w) : eachT n a b ws = neT (ws.map f) := by
  unfold eachT neT
  rw [show oneE n a b = f from funext he]
  refine List.filter_congr fun x _ => ?_
  by_cases hx : x = [] <;> simp [hx, hp]
theorem dirOf_ne {x : BT} (h : x ≠ []) : dirOf x ≠ [] := by
  unfold dirOf
  have hl := List.length_pos_iff.2 h
  have hb := last_bound 47 x 0 x.length
  split
  · simp
  · next hs =>
    unfold slashAt at hs ⊢
    intro e
    have := congrArg List.length e
    rw [List.length_take, List.length_nil] at this
    omega
theorem words_ne {t w : BT} (h : w ∈ wordsT t) : w ≠ [] := (words_memT h).1.1
theorem each_list (n a b t : BT) (h : n = nStrip ∨ n = nPatsubst ∨ n = nFilter ∨ n = nFilterOut ∨ n = nAddsuffix ∨ n = nAddprefix ∨ n = nDir ∨ n = nNotdir ∨ n = nSuffix ∨ n = nBasename) : eachT n a b (wordsT t) = listT n a b t := by
  rcases h with rfl | rfl | rfl | rfl | rfl | rfl | rfl | rfl | rfl | rfl
  · rw [each_map (fun w => w) (by decide) (fun w => rfl), List.map_id', ne_all (fun x hx => words_ne hx)]; rfl
  · unfold eachT
    have e : ((wordsT t).map (oneE nPatsubst a b)).filter (fun x => decide (x ≠ [] ∨ nPatsubst = nPatsubst)) = (wordsT t).map (oneE nPatsubst a b) := by
      rw [List.filter_eq_self]; simp
    rw [e]; rfl
  · rw [each_map (fun w => if anyL (wordsT a) w then w else []) (by decide) (fun w => rfl), ne_if _ _ (fun x hx => words_ne hx)]; rfl
  · rw [each_map (fun w => if !anyL (wordsT a) w then w else []) (by decide) (fun w => by
      show (if anyL (wordsT a) w then [] else w) = _
      cases anyL (wordsT a) w <;> rfl), ne_if _ _ (fun x hx => words_ne hx)]; rfl
  · rw [each_map (fun w => w ++ a) (by decide) (fun w => rfl), ne_all (fun x hx => by
      obtain ⟨w, hw, rfl⟩ := List.mem_map.1 hx
      have := words_ne hw
      simp [this])]; rfl
  · rw [each_map (fun w => a ++ w) (by decide) (fun w => rfl), ne_all (fun x hx => by
      obtain ⟨w, hw, rfl⟩ := List.mem_map.1 hx
      have := words_ne hw
      simp [this])]; rfl
  · rw [each_map dirOf (by decide) (fun w => rfl), ne_all (fun x hx => by
      obtain ⟨w, hw, rfl⟩ := List.mem_map.1 hx
      exact dirOf_ne (words_ne hw))]; rfl
  · rw [each_map notdirOf (by decide) (fun w => rfl)]; rfl
  · rw [each_map suffixOf (by decide) (fun w => rfl)]; rfl
  · rw [each_map baseOf (by decide) (fun w => rfl)]; rfl
theorem part_len (n w : BT) : (partOf n w).length ≤ w.length + 2 := by
  unfold partOf dirOf notdirOf suffixOf baseOf
  repeat' split
  all_goals simp [List.length_take, List.length_drop]
  all_goals omega
theorem one_len (n a b w : BT) : (oneE n a b w).length ≤ w.length + a.length + b.length + 2 := by
  have h1 := substL_len a b w
  have h2 := part_len n w
  unfold oneE
  repeat' split
  all_goals simp [List.length_append]
  all_goals omega
theorem each_mem {n a b x : BT} {ws : List BT} (h : x ∈ eachT n a b ws) : ∃ w ∈ ws, x = oneE n a b w := by
  unfold eachT at h
  obtain ⟨w, hw, rfl⟩ := List.mem_map.1 (List.mem_filter.1 h).1
  exact ⟨w, hw, rfl⟩
theorem zip_mem {x : BT} (c : Nat) : ∀ {a b : List BT}, (∀ w ∈ a, w.length ≤ c) → (∀ w ∈ b, w.length ≤ c) → x ∈ zipT a b → x.length ≤ 2 * c
  | [], b, _, hb, h => by unfold zipT at h; have := hb x h; omega
  | y :: r, [], ha, _, h => by unfold zipT at h; have := ha x h; omega
  | y :: r, z :: s, ha, hb, h => by
    unfold zipT at h
    rcases List.mem_cons.1 h with rfl | h
    · have h1 := ha y (by simp)
      have h2 := hb z (by simp)
      rw [List.length_append]; omega
    · exact zip_mem c (fun w hw => ha w (List.mem_cons_of_mem _ hw)) (fun w hw => hb w (List.mem_cons_of_mem _ hw)) h
theorem zip_len : ∀ a b : List BT, (zipT a b).length ≤ a.length + b.length
  | [], b => by unfold zipT; omega
  | y :: r, [] => by unfold zipT; simp
  | y :: r, z :: s => by have := zip_len r s; unfold zipT; simp; omega
end Go.Proofs.YtbngoodjgijmgaaGreatDoor

namespace Go.Proofs.YtbngoodjgijmgaaGreatDoor
open Go.RowKit Go.Shelf
attribute [local go_sem] Oper.semAt_some

set_option maxRecDepth 100000 in
set_option maxHeartbeats 4000000 in
theorem some10_any (a b : Int) (t : ByteArray) (ht : t.size ≤ 10000) (w : World) : Calls Tryz.prog 150 #[.int .i64 a, .int .i64 b, .string t] w (RowPost (someI a b 0 (wordsT t.data.toList)) w) := by
  have HW := Lib.hid (rwords_told t (by omega) w)
  have hwl := words_few t.data.toList
  rw [size_list] at hwl
  generalize wordsT t.data.toList = ws at HW hwl ⊢
  obtain ⟨n, hn⟩ : ∃ n, n = ws.length := ⟨_, rfl⟩
  rw [← hn] at HW hwl
  have HN := Lib.hid hn
  clear hn
  go_enter Tryz.func150, Tryz.ntmps150
  go_wp2_with fail
  refine HW.out.mono ?_
  rintro e w1 ⟨o, c, rfl, hc, hb1⟩
  have HC := cells_later hc HN.out
  have HB := Lib.hid hb1
  have h0 : Hid (RowS w1 w1 (.slice none 0 0) []) := RowS.start (Below.refl _ _)
  clear hc hb1
  go_wp2_with fail
  go_loopw [8, 9] (fun ov iv wr => ∃ (k : Nat) (acc : List BT), k ≤ n ∧ iv = .int .i64 k ∧ acc ++ someI a b k (ws.drop k) = someI a b 0 ws ∧ acc.length ≤ k ∧ RowS w1 wr ov acc) (fun _ iv _ => n - (intOf iv).toNat)
  case atStart => exact ⟨0, [], Nat.zero_le _, rfl, rfl, Nat.le_refl _, h0.out⟩
  case round =>
    obtain ⟨k, acc, hk, rfl, hacc, hal, hR⟩ := hrel
    obtain ⟨oo, oc, rfl, hR⟩ := hR.slice
    have HA := Lib.hid hacc
    clear hacc
    by_cases hkn : k < n
    · obtain ⟨x, hxk⟩ : ∃ x, ws[k]? = some x := ⟨ws[k]'(by rw [← HN.out]; exact hkn), List.getElem?_eq_getElem _⟩
      obtain ⟨b0, f0, rfl, hnc, hcell⟩ := HC.out wr hR.2 k x hxk
      have hnx := someI_next (a := a) (b := b) hxk
      have hki : (k : Int) < (n : Int) := by omega
      have hkc : k < c := by omega
      by_cases h12 : a ≤ (k : Int) + 1 ∧ (k : Int) + 1 ≤ b
      · rw [if_pos h12] at hnx
        have HA2 : Hid ((acc ++ [x]) ++ someI a b (k + 1) (ws.drop (k + 1)) = someI a b 0 ws) := by
          show _ = _
          rw [← HA.out, hnx, List.append_assoc]; rfl
        have h1 := h12.1
        have h2 := h12.2
        have d1 : decide (a ≤ (k : Int) + 1) = true := decide_eq_true h1
        have d2 : decide ((k : Int) + 1 ≤ b) = true := decide_eq_true h2
        obtain ⟨po, pc, w3, hrun, hR3⟩ := hR.push x (by omega) 99
        have HR3 := Lib.hid hR3
        clear hR3 hnx h12 hxk HA
        go_wp2_with (at_builtin; refine wpList_append_eq rfl _ _ 99 rfl _ _ _ w3 rfl rfl hrun ?_)
        go_roundw
        case rel => exact ⟨k + 1, acc ++ [x], hkn, by go_num, HA2.out, by simp; omega, HR3.out⟩
        case measure => simp [intOf]; omega
      · rw [if_neg h12] at hnx
        have HA2 : Hid (acc ++ someI a b (k + 1) (ws.drop (k + 1)) = someI a b 0 ws) := by
          show _ = _
          rw [← HA.out, hnx]
        have HR := Lib.hid hR
        by_cases h1 : a ≤ (k : Int) + 1
        · have h2 : ¬ (k : Int) + 1 ≤ b := fun h => h12 ⟨h1, h⟩
          have d1 : decide (a ≤ (k : Int) + 1) = true := decide_eq_true h1
          have d2 : decide ((k : Int) + 1 ≤ b) = false := decide_eq_false h2
          clear hR hnx h12 hxk HA
          go_wp2_with fail
          go_roundw
          case rel => exact ⟨k + 1, acc, hkn, by go_num, HA2.out, by omega, HR.out⟩
          case measure => simp [intOf]; omega
        · have d1 : decide (a ≤ (k : Int) + 1) = false := decide_eq_false h1
          clear hR hnx h12 hxk HA
          go_wp2_with fail
          go_roundw
          case rel => exact ⟨k + 1, acc, hkn, by go_num, HA2.out, by omega, HR.out⟩
          case measure => simp [intOf]; omega
    · have HE : Hid (RowPost (someI a b 0 ws) w (.returned (.slice oo acc.length oc)) wr) := by
        have e : acc = someI a b 0 ws := by
          rw [← HA.out, List.drop_eq_nil_of_le (by rw [← HN.out]; omega)]
          simp [someI]
        rw [← e]
        exact hR.post HB.out
      clear HA hR
      go_wp2_with fail
      go_ret
      exact HE.out

theorem less_yes {a b : BT} (h : a < b) : Op.bytesLess (txt a).toList (txt b).toList = true := by
  rw [bytesLess_lt, txt_toL, txt_toL]
  exact decide_eq_true h
theorem less_not {a b : BT} (h : ¬ a < b) : Op.bytesLess (txt a).toList (txt b).toList = false := by
  rw [bytesLess_lt, txt_toL, txt_toL]
  exact decide_eq_false h

set_option maxRecDepth 100000 in
set_option maxHeartbeats 8000000 in
theorem sorted10_any (o : Option Addr) (c n : Nat) (ws : List BT) (hn : n = ws.length) (hnz : n ≤ 100000) (w : World) (hc : CellsW w o c ws) : Calls Tryz.prog 148 #[.slice o n c] w (RowPost (sortT ws) w) := by
  have HN := Lib.hid hn
  have HC := cells_later hc hn
  have h0 : Hid (RowS w w (.slice none 0 0) []) := RowS.start (Below.refl _ _)
  clear hc hn
  go_enter Tryz.func148, Tryz.ntmps148
  go_wp2_with fail
  go_loopw [3, 4, 5, 6, 7] (fun ov iv _ _ _ wr => ∃ (i : Nat), i ≤ n ∧ iv = .int .i64 i ∧ RowS w wr ov (sortT (ws.take i))) (fun _ iv _ _ _ _ => n - (intOf iv).toNat)
  case atStart => exact ⟨0, Nat.zero_le _, rfl, h0.out⟩
  case round =>
    obtain ⟨i, hi, rfl, hR⟩ := hrel
    obtain ⟨oo, oc, rfl, hR⟩ := hR.slice
    by_cases hin : i < n
    · obtain ⟨x, hxi⟩ : ∃ x, ws[i]? = some x := ⟨ws[i]'(by rw [← HN.out]; exact hin), List.getElem?_eq_getElem _⟩
      have HS := Lib.hid (sort_next hxi)
      have hii : (i : Int) < (n : Int) := by omega
      have hLl := sort_len (ws.take i)
      rw [List.length_take] at hLl
      generalize sortT (ws.take i) = L at hR HS hLl ⊢
      obtain ⟨m, hm⟩ : ∃ m, m = L.length := ⟨_, rfl⟩
      have HM := Lib.hid hm
      rw [← hm] at hLl hR ⊢
      have hmz : m ≤ 100000 := by omega
      have hb0 := hR.2
      obtain ⟨o2, c2, hv2, hL2⟩ := hR.cells
      have e2 : o2 = oo ∧ c2 = oc := by cases hv2; exact ⟨rfl, rfl⟩
      obtain ⟨rfl, rfl⟩ := e2
      have HL := cells_later hL2 HM.out
      obtain ⟨wo, hwo⟩ : ∃ wo, wo = wr := ⟨_, rfl⟩
      subst hwo
      have HW : Hid (∀ wr, Below wo.heap.size wo wr → ∃ b f, o = some ⟨b, f, none⟩ ∧ n ≤ c ∧ wr.cell? ⟨b, f + i, none⟩ = some (.string (txt x))) := fun wr hb => HC.out wr (hb0.trans (hb.mono hb0.size)) i x hxi
      have HB0 := Lib.hid hb0
      have h1 : Hid (RowS wo wo (.slice none 0 0) []) := RowS.start (Below.refl _ _)
      have hI0 := Lib.hid (ins_start x L)
      clear hv2 hL2 hm hxi hb0 hR hLl HC h0
      go_wp2_with fail
      go_loopw [5, 6, 7] (fun nv dv kv wr => ∃ (k : Nat) (d : Bool) (Z : List BT), k ≤ m ∧ kv = .int .i64 k ∧ dv = .bool d ∧ InsAt x L k d Z ∧ Z.length ≤ 2 * k ∧ RowS wo wr nv Z) (fun _ _ kv _ => m - (intOf kv).toNat)
      case atStart => exact ⟨0, false, [], Nat.zero_le _, rfl, rfl, hI0.out, Nat.le_refl _, h1.out⟩
      case round =>
        clear h1 hI0
        obtain ⟨k, d, Z, hk, rfl, rfl, hI, hZl, hR⟩ := hrel
        obtain ⟨zo, zc, rfl, hR⟩ := hR.slice
        have HI := Lib.hid hI
        clear hI
        by_cases hkm : k < m
        · obtain ⟨y, hyk⟩ : ∃ y, L[k]? = some y := ⟨L[k]'(by rw [← HM.out]; exact hkm), List.getElem?_eq_getElem _⟩
          have HY := Lib.hid hyk
          have HF : Hid (∀ W, Below wr.heap.size wr W → (∃ b f, o = some ⟨b, f, none⟩ ∧ n ≤ c ∧ W.cell? ⟨b, f + i, none⟩ = some (.string (txt x))) ∧ (∃ b f, o2 = some ⟨b, f, none⟩ ∧ m ≤ c2 ∧ W.cell? ⟨b, f + k, none⟩ = some (.string (txt y))) ∧ RowS wo W (.slice zo Z.length zc) Z) := fun W hb =>
            ⟨HW.out W (hR.2.trans (hb.mono hR.2.size)), HL.out W (hR.2.trans (hb.mono hR.2.size)) k y hyk, hR.below hb⟩
          obtain ⟨⟨bw, fw, rfl, hnc, x0⟩, ⟨bl, fl, rfl, hmc, x1⟩, -⟩ := HF.out wr (Below.refl _ _)
          have hic : i < c := by omega
          have hkc : k < c2 := by omega
          have h0i : (0 : Int) ≤ (i : Int) := by omega
          have h0k : (0 : Int) ≤ (k : Int) := by omega
          have hki : (k : Int) < (m : Int) := by omega
          have HF2 : Hid (∀ W, Below wr.heap.size wr W → W.cell? ⟨bw, fw + i, none⟩ = some (.string (txt x)) ∧ W.cell? ⟨bl, fl + k, none⟩ = some (.string (txt y)) ∧ RowS wo W (.slice zo Z.length zc) Z) := fun W hb => by
            obtain ⟨⟨_, _, e1, _, q1⟩, ⟨_, _, e2, _, q2⟩, q3⟩ := HF.out W hb
            cases e1; cases e2
            exact ⟨q1, q2, q3⟩
          have HL2 : Hid (∀ W, Below wo.heap.size wo W → W.cell? ⟨bl, fl + k, none⟩ = some (.string (txt y))) := fun W hb => by
            obtain ⟨_, _, e1, _, q1⟩ := HL.out W hb k y hyk
            cases e1
            exact q1
          clear hyk HF hnc hmc hR
          by_cases hyx : y = x
          · have e1 : ((txt y).toList == (txt x).toList) = true := tq_t hyx
            subst hyx
            have HIN := Lib.hid (ins_same HI.out HY.out)
            clear HI
            go_wp2_with fail
            go_quiet (fail)
            have hb5 : Below wr.heap.size wr (wr.drewN nq) := below_drewN (Below.refl _ wr) nq
            clear x0 x1
            generalize wr.drewN nq = w5 at hb5 ⊢
            obtain ⟨x0, x1, -⟩ := HF2.out _ hb5
            go_wp2_with fail
            go_quiet (fail)
            have hb6 : Below wr.heap.size wr (w5.drewN nq) := below_drewN hb5 nq
            clear x0 x1 hb5
            generalize w5.drewN nq = w6 at hb6 ⊢
            obtain ⟨x0, x1, hR6⟩ := HF2.out _ hb6
            obtain ⟨o7, c7, w7, hrun7, hR7⟩ := hR6.push y (by omega) 99
            have HRN := Lib.hid hR7
            clear hR6 hR7 hb6
            go_wp2_with (at_builtin; refine wpList_append_eq rfl _ _ 99 rfl _ _ _ w7 rfl rfl hrun7 ?_)
            go_roundw
            case rel => exact ⟨k + 1, true, Z ++ [y], hkm, by go_num, by trivial, HIN.out, by simp only [List.length_append, List.length_cons, List.length_nil]; omega, by first | exact HRN.out | simpa using HRN.out⟩
            case measure => simp [intOf]; omega
          · have e1 : ((txt y).toList == (txt x).toList) = false := tq_f hyx
            have HYX := Lib.hid hyx
            clear hyx
            cases d with
            | true =>
              have HIN := Lib.hid (ins_rest HI.out HY.out)
              clear HI
              go_wp2_with fail
              go_quiet (fail)
              have hb5 : Below wr.heap.size wr (wr.drewN nq) := below_drewN (Below.refl _ wr) nq
              clear x0 x1
              generalize wr.drewN nq = w5 at hb5 ⊢
              obtain ⟨x0, x1, -⟩ := HF2.out _ hb5
              go_wp2_with fail
              go_quiet (fail)
              have hb6 : Below wr.heap.size wr (w5.drewN nq) := below_drewN hb5 nq
              clear x0 x1 hb5
              generalize w5.drewN nq = w6 at hb6 ⊢
              obtain ⟨x0, x1, hR6⟩ := HF2.out _ hb6
              obtain ⟨o7, c7, w7, hrun7, hR7⟩ := hR6.push y (by omega) 99
              have HRN := Lib.hid hR7
              clear hR6 hR7 hb6
              go_wp2_with (at_builtin; refine wpList_append_eq rfl _ _ 99 rfl _ _ _ w7 rfl rfl hrun7 ?_)
              go_roundw
              case rel => exact ⟨k + 1, true, Z ++ [y], hkm, by go_num, by trivial, HIN.out, by simp only [List.length_append, List.length_cons, List.length_nil]; omega, by first | exact HRN.out | simpa using HRN.out⟩
              case measure => simp [intOf]; omega
            | false =>
              by_cases hlt : x < y
              · have e3 := less_yes hlt
                have HIN := Lib.hid (ins_less HI.out HY.out HYX.out hlt)
                clear HI
                go_wp2_with fail
                go_quiet (fail)
                have hb5 : Below wr.heap.size wr (wr.drewN nq) := below_drewN (Below.refl _ wr) nq
                clear x0 x1
                generalize wr.drewN nq = w5 at hb5 ⊢
                obtain ⟨x0, x1, -⟩ := HF2.out _ hb5
                go_wp2_with fail
                go_quiet (fail)
                have hb6 : Below wr.heap.size wr (w5.drewN nq) := below_drewN hb5 nq
                clear x0 x1 hb5
                generalize w5.drewN nq = w6 at hb6 ⊢
                obtain ⟨x0, x1, hR6⟩ := HF2.out _ hb6
                obtain ⟨o7, c7, w7, hrun7, hR7⟩ := hR6.push x (by omega) 99
                obtain ⟨o8, c8, w8, hrun8, hR8⟩ := hR7.push y (by simp only [List.length_append, List.length_cons, List.length_nil]; omega) 99
                have x3 := HL2.out w7 hR7.2
                have HRN := Lib.hid hR8
                clear hR6 hR7 hR8 hb6
                go_wp2_with (first | (at_builtin; refine wpList_append_eq rfl _ _ 99 rfl _ _ _ w7 rfl rfl hrun7 ?_) | (at_builtin; refine wpList_append_eq rfl _ _ 99 rfl _ _ _ w8 rfl rfl hrun8 ?_))
                go_roundw
                case rel => exact ⟨k + 1, true, Z ++ [x] ++ [y], hkm, by go_num, by trivial, HIN.out, by simp only [List.length_append, List.length_cons, List.length_nil]; omega, by first | exact HRN.out | simpa using HRN.out⟩
                case measure => simp [intOf]; omega
              · have e3 := less_not hlt
                have HIN := Lib.hid (ins_more HI.out HY.out HYX.out hlt)
                clear HI
                go_wp2_with fail
                go_quiet (fail)
                have hb5 : Below wr.heap.size wr (wr.drewN nq) := below_drewN (Below.refl _ wr) nq
                clear x0 x1
                generalize wr.drewN nq = w5 at hb5 ⊢
                obtain ⟨x0, x1, -⟩ := HF2.out _ hb5
                go_wp2_with fail
                go_quiet (fail)
                have hb6 : Below wr.heap.size wr (w5.drewN nq) := below_drewN hb5 nq
                clear x0 x1 hb5
                generalize w5.drewN nq = w6 at hb6 ⊢
                obtain ⟨x0, x1, hR6⟩ := HF2.out _ hb6
                obtain ⟨o7, c7, w7, hrun7, hR7⟩ := hR6.push y (by omega) 99
                have HRN := Lib.hid hR7
                clear hR6 hR7 hb6
                go_wp2_with (at_builtin; refine wpList_append_eq rfl _ _ 99 rfl _ _ _ w7 rfl rfl hrun7 ?_)
                go_roundw
                case rel => exact ⟨k + 1, false, Z ++ [y], hkm, by go_num, by trivial, HIN.out, by simp only [List.length_append, List.length_cons, List.length_nil]; omega, by first | exact HRN.out | simpa using HRN.out⟩
                case measure => simp [intOf]; omega
        · have hkm' : k = m := by omega
          subst hkm'
          have HE := Lib.hid (ins_end HI.out (by rw [← HM.out]; exact Nat.le_refl _))
          obtain ⟨bw, fw, rfl, hnc, x0⟩ := HW.out wr hR.2
          have hic : i < c := by omega
          have h0i : (0 : Int) ≤ (i : Int) := by omega
          clear HI hnc
          cases d with
          | true =>
            have HQ : Hid (RowS w wr (.slice zo Z.length zc) (sortT (ws.take (i + 1)))) := by
              show RowS _ _ _ _
              rw [HS.out, HE.out]
              exact hR.since HB0.out
            clear hR HE HS
            go_wp2_with fail
            go_roundw
            case rel => exact ⟨i + 1, hin, by go_num, HQ.out⟩
            case measure => simp [intOf]; omega
          | false =>
            obtain ⟨o7, c7, w7, hrun7, hR7⟩ := hR.push x (by omega) 99
            have HQ : Hid (RowS w w7 (.slice o7 (Z.length + 1) c7) (sortT (ws.take (i + 1)))) := by
              show RowS _ _ _ _
              rw [HS.out, HE.out]
              exact hR7.since HB0.out
            clear hR hR7 HE HS
            go_wp2_with (at_builtin; refine wpList_append_eq rfl _ _ 99 rfl _ _ _ w7 rfl rfl hrun7 ?_)
            go_roundw
            case rel => exact ⟨i + 1, hin, by go_num, HQ.out⟩
            case measure => simp [intOf]; omega
    · have HE : Hid (RowPost (sortT ws) w (.returned (.slice oo (sortT (ws.take i)).length oc)) wr) := by
        have e : ws.take i = ws := List.take_of_length_le (by rw [← HN.out]; omega)
        rw [e] at hR ⊢
        exact hR.post (Below.refl _ _)
      clear hR HC
      generalize (sortT (ws.take i)).length = q at HE ⊢
      go_wp2_with fail
      go_ret
      exact HE.out
end Go.Proofs.YtbngoodjgijmgaaGreatDoor

namespace Go.Proofs.YtbngoodjgijmgaaGreatDoor
open Go.RowKit Go.Shelf
attribute [local go_sem] Oper.semAt_some

set_option maxRecDepth 100000 in
set_option maxHeartbeats 8000000 in
theorem join10_any (s t : ByteArray) (hs : s.size ≤ 10000) (ht : t.size ≤ 10000) (w : World) : Calls Tryz.prog 152 #[.string s, .string t] w (RowPost (zipT (wordsT s.data.toList) (wordsT t.data.toList)) w) := by
  have HW1 := Lib.hid (rwords_told s (by omega) w)
  have HW2 := Lib.hid (rwords_told t (by omega))
  have hl1 := words_few s.data.toList
  rw [size_list] at hl1
  have hl2 := words_few t.data.toList
  rw [size_list] at hl2
  have hz1 : Hid (∀ x ∈ wordsT s.data.toList, x.length ≤ 10000) := fun x hx => by have := (words_memT hx).2; rw [size_list] at this; omega
  have hz2 : Hid (∀ x ∈ wordsT t.data.toList, x.length ≤ 10000) := fun x hx => by have := (words_memT hx).2; rw [size_list] at this; omega
  generalize wordsT s.data.toList = xs at HW1 hl1 hz1 ⊢
  generalize wordsT t.data.toList = ys at HW2 hl2 hz2 ⊢
  obtain ⟨n, hn⟩ : ∃ n, n = xs.length := ⟨_, rfl⟩
  obtain ⟨m, hm⟩ : ∃ m, m = ys.length := ⟨_, rfl⟩
  rw [← hn] at HW1 hl1
  rw [← hm] at HW2 hl2
  have HN := Lib.hid hn
  have HM := Lib.hid hm
  clear hn hm
  go_enter Tryz.func152, Tryz.ntmps152
  go_wp2_with fail
  refine HW1.out.mono ?_
  rintro e w1 ⟨o1, c1, rfl, hc1, hb1⟩
  go_wp2_with fail
  refine (HW2.out w1).mono ?_
  rintro e w2 ⟨o2, c2, rfl, hc2, hb2⟩
  have HC1 := cells_later (hc1.below hb2) HN.out
  have HC2 := cells_later hc2 HM.out
  have HB := Lib.hid (hb1.trans (hb2.mono hb1.size))
  have h0 : Hid (RowS w2 w2 (.slice none 0 0) []) := RowS.start (Below.refl _ _)
  clear hc1 hc2 hb1 hb2 HW1 HW2
  go_wp2_with fail
  go_loopw [7, 8, 9] (fun ov iv _ wr => ∃ (k : Nat) (acc : List BT), k ≤ n + m ∧ iv = .int .i64 k ∧ acc ++ zipT (xs.drop k) (ys.drop k) = zipT xs ys ∧ acc.length ≤ k ∧ RowS w2 wr ov acc) (fun _ iv _ _ => n + m - (intOf iv).toNat)
  case atStart => exact ⟨0, [], Nat.zero_le _, rfl, rfl, Nat.le_refl _, h0.out⟩
  case round =>
    obtain ⟨k, acc, hk, rfl, hacc, hal, hR⟩ := hrel
    obtain ⟨oo, oc, rfl, hR⟩ := hR.slice
    have HA := Lib.hid hacc
    clear hacc
    by_cases ha : k < n
    · by_cases hb : k < m
      · have hnx : zipT (xs.drop k) (ys.drop k) = _ := zip_next (a := xs) (b := ys) (k := k) (by rw [← HN.out, ← HM.out]; omega)
        obtain ⟨x, hxk⟩ : ∃ x, xs[k]? = some x := ⟨xs[k]'(by rw [← HN.out]; exact ha), List.getElem?_eq_getElem _⟩
        obtain ⟨b1, f1, rfl, hnc1, x1⟩ := HC1.out wr hR.2 k x hxk
        have hkc1 : k < c1 := by omega
        have hka : (k : Int) < (n : Int) := by omega
        have hxl := hz1.out x (List.mem_of_getElem? hxk)
        obtain ⟨y, hyk⟩ : ∃ y, ys[k]? = some y := ⟨ys[k]'(by rw [← HM.out]; exact hb), List.getElem?_eq_getElem _⟩
        obtain ⟨b2, f2, rfl, hnc2, x2⟩ := HC2.out wr hR.2 k y hyk
        have hkc2 : k < c2 := by omega
        have hkb : (k : Int) < (m : Int) := by omega
        have hyl := hz2.out y (List.mem_of_getElem? hyk)
        rw [hxk, hyk] at hnx
        have HA2 : Hid ((acc ++ [x ++ y]) ++ zipT (xs.drop (k + 1)) (ys.drop (k + 1)) = zipT xs ys) := by
          show _ = _
          rw [← HA.out, hnx, List.append_assoc]; simp
        have hcat : (txt x ++ txt y).size ≤ 2000000 := by rw [ByteArray.size_append, txt_size, txt_size]; omega
        obtain ⟨po, pc, w3, hrun, hR3⟩ := hR.push (x ++ y) (by omega) 99
        rw [← txt_app] at hrun
        have HR3 := Lib.hid hR3
        clear hR3 hnx hxk hyk HA hR
        go_wp2_with (at_builtin; refine wpList_append_eq rfl _ _ 99 rfl _ _ _ w3 rfl rfl hrun ?_)
        go_roundw
        case rel => exact ⟨k + 1, _, by omega, by go_num, HA2.out, by simp; omega, HR3.out⟩
        case measure => simp [intOf]; omega
      · have hnx : zipT (xs.drop k) (ys.drop k) = _ := zip_next (a := xs) (b := ys) (k := k) (by rw [← HN.out, ← HM.out]; omega)
        obtain ⟨x, hxk⟩ : ∃ x, xs[k]? = some x := ⟨xs[k]'(by rw [← HN.out]; exact ha), List.getElem?_eq_getElem _⟩
        obtain ⟨b1, f1, rfl, hnc1, x1⟩ := HC1.out wr hR.2 k x hxk
        have hkc1 : k < c1 := by omega
        have hka : (k : Int) < (n : Int) := by omega
        have hxl := hz1.out x (List.mem_of_getElem? hxk)
        have hyk : ys[k]? = none := List.getElem?_eq_none (by rw [← HM.out]; omega)
        have hkb : ¬ (k : Int) < (m : Int) := by omega
        rw [hxk, hyk] at hnx
        have HA2 : Hid ((acc ++ [x]) ++ zipT (xs.drop (k + 1)) (ys.drop (k + 1)) = zipT xs ys) := by
          show _ = _
          rw [← HA.out, hnx, List.append_assoc]; simp
        obtain ⟨po, pc, w3, hrun, hR3⟩ := hR.push (x) (by omega) 99
        have HR3 := Lib.hid hR3
        clear hR3 hnx hxk hyk HA hR
        go_wp2_with (at_builtin; refine wpList_append_eq rfl _ _ 99 rfl _ _ _ w3 rfl rfl hrun ?_)
        go_roundw
        case rel => exact ⟨k + 1, _, by omega, by go_num, HA2.out, by simp; omega, HR3.out⟩
        case measure => simp [intOf]; omega
    · by_cases hb : k < m
      · have hnx : zipT (xs.drop k) (ys.drop k) = _ := zip_next (a := xs) (b := ys) (k := k) (by rw [← HN.out, ← HM.out]; omega)
        have hxk : xs[k]? = none := List.getElem?_eq_none (by rw [← HN.out]; omega)
        have hka : ¬ (k : Int) < (n : Int) := by omega
        obtain ⟨y, hyk⟩ : ∃ y, ys[k]? = some y := ⟨ys[k]'(by rw [← HM.out]; exact hb), List.getElem?_eq_getElem _⟩
        obtain ⟨b2, f2, rfl, hnc2, x2⟩ := HC2.out wr hR.2 k y hyk
        have hkc2 : k < c2 := by omega
        have hkb : (k : Int) < (m : Int) := by omega
        have hyl := hz2.out y (List.mem_of_getElem? hyk)
        rw [hxk, hyk] at hnx
        have HA2 : Hid ((acc ++ [y]) ++ zipT (xs.drop (k + 1)) (ys.drop (k + 1)) = zipT xs ys) := by
          show _ = _
          rw [← HA.out, hnx, List.append_assoc]; simp
        have hcat : ((⟨#[]⟩ : ByteArray) ++ txt y).size ≤ 2000000 := by rw [ByteArray.size_append, txt_size]; show 0 + _ ≤ _; omega
        have hemp : (⟨#[]⟩ : ByteArray) ++ txt y = txt y := by show txt [] ++ txt y = txt y; rw [txt_app]; rfl
        obtain ⟨po, pc, w3, hrun, hR3⟩ := hR.push (y) (by omega) 99
        have HR3 := Lib.hid hR3
        clear hR3 hnx hxk hyk HA hR
        go_wp2_with (at_builtin; refine wpList_append_eq rfl _ _ 99 rfl _ _ _ w3 rfl rfl hrun ?_)
        go_roundw
        case rel => exact ⟨k + 1, _, by omega, by go_num, HA2.out, by simp; omega, HR3.out⟩
        case measure => simp [intOf]; omega
      · have HE : Hid (RowPost (zipT xs ys) w (.returned (.slice oo acc.length oc)) wr) := by
          have e : acc = zipT xs ys := by
            rw [← HA.out, zip_done (by rw [← HN.out]; omega) (by rw [← HM.out]; omega), List.append_nil]
          rw [← e]
          exact hR.post HB.out
        have hka : ¬ (k : Int) < (n : Int) := by omega
        have hkb : ¬ (k : Int) < (m : Int) := by omega
        clear HA hR hal
        go_wp2_with fail
        go_ret
        exact HE.out
end Go.Proofs.YtbngoodjgijmgaaGreatDoor

namespace Go.Proofs.YtbngoodjgijmgaaGreatDoor
open Go.RowKit Go.Shelf
attribute [local go_sem] Oper.semAt_some

theorem rany_told (ps : List BT) (x : BT) (o : Option Addr) (c : Nat) (w : World) (hr : CellsW w o c ps) (hn : ps.length ≤ 100000) (hz : ∀ p ∈ ps, p.length ≤ 100000) (hx : x.length ≤ 100000) :
    Calls Tryz.prog 183 #[.slice o ps.length c, .string (txt x)] w fun e w' => e = .returned (.bool (anyL ps x)) ∧ Below w.heap.size w w' := by
  have := refAny_any _ (ps.map txt) (txt x) _ w hr.reads (by rw [List.length_map]; unfold maxLen; omega) (fun p hp => by
    obtain ⟨q, hq, rfl⟩ := List.mem_map.1 hp
    have := hz q hq
    rw [txt_size]; omega) (by rw [txt_size]; omega)
  refine this.mono ?_
  rintro e w' ⟨rfl, nd, rfl⟩
  refine ⟨?_, below_drewN (Below.refl _ w) nd⟩
  have e : anyB (ps.map txt) (txt x) = anyL ps x := by
    unfold anyB anyL oneB
    rw [List.any_map]
    congr 1
  rw [e]

set_option maxRecDepth 100000 in
set_option maxHeartbeats 16000000 in
theorem each10_any (s a b t : ByteArray) (ha : a.size ≤ 4000) (hb : b.size ≤ 4000) (ht : t.size ≤ 4000) (w : World) : Calls Tryz.prog 146 #[.string s, .string a, .string b, .string t] w (RowPost (eachT s.data.toList a.data.toList b.data.toList (wordsT t.data.toList)) w) := by
  have HW := Lib.hid (rwords_told t (by omega) w)
  have hwl := words_few t.data.toList
  rw [size_list] at hwl
  have HZ : Hid (∀ x ∈ wordsT t.data.toList, x.length ≤ 4000) := fun x hx => by have := (words_memT hx).2; rw [size_list] at this; omega
  have HNe : Hid (∀ x ∈ wordsT t.data.toList, x ≠ []) := fun x hx => words_ne hx
  obtain ⟨N, hN⟩ : ∃ N, N = s.data.toList := ⟨_, rfl⟩
  have hs : s.toList = N := by rw [Lib.toList_data, hN]
  rw [← hN]
  have HS := Lib.hid hs
  generalize wordsT t.data.toList = ws at HW hwl HZ HNe ⊢
  obtain ⟨n, hn⟩ : ∃ n, n = ws.length := ⟨_, rfl⟩
  rw [← hn] at HW hwl
  have HN := Lib.hid hn
  have hnz : n ≤ 4001 := by omega
  clear hn hN hwl hs
  go_enter Tryz.func146, Tryz.ntmps146
  go_wp2_with fail
  refine HW.out.mono ?_
  rintro e w1 ⟨o, c, rfl, hc, hb1⟩
  have HC := cells_later hc HN.out
  have HB := Lib.hid hb1
  have h0 : Hid (RowS w1 w1 (.slice none 0 0) []) := RowS.start (Below.refl _ _)
  clear hc hb1 HW
  go_wp2_with fail
  go_loopw [10, 11, 12] (fun ov iv _ wr => ∃ (k : Nat) (acc : List BT), k ≤ n ∧ iv = .int .i64 k ∧ acc ++ eachT N a.data.toList b.data.toList (ws.drop k) = eachT N a.data.toList b.data.toList ws ∧ acc.length ≤ k ∧ RowS w1 wr ov acc) (fun _ iv _ _ => n - (intOf iv).toNat)
  case atStart => exact ⟨0, [], Nat.zero_le _, rfl, rfl, Nat.le_refl _, h0.out⟩
  case round =>
    obtain ⟨k, acc, hk, rfl, hacc, hal, hR⟩ := hrel
    obtain ⟨oo, oc, rfl, hR⟩ := hR.slice
    have HA := Lib.hid hacc
    clear hacc h0
    by_cases hkn : k < n
    · obtain ⟨x, hxk⟩ : ∃ x, ws[k]? = some x := ⟨ws[k]'(by rw [← HN.out]; exact hkn), List.getElem?_eq_getElem _⟩
      have hxl := HZ.out x (List.mem_of_getElem? hxk)
      have HXe := Lib.hid (HNe.out x (List.mem_of_getElem? hxk))
      have hnx := each_next (n := N) (a := a.data.toList) (b := b.data.toList) hxk
      have hki : (k : Int) < (n : Int) := by omega
      have h0k : (0 : Int) ≤ (k : Int) := by omega
      have HF : Hid (∀ W, Below wr.heap.size wr W → (∃ b f, o = some ⟨b, f, none⟩ ∧ n ≤ c ∧ W.cell? ⟨b, f + k, none⟩ = some (.string (txt x))) ∧ RowS w1 W (.slice oo acc.length oc) acc) := fun W hb =>
        ⟨HC.out W (hR.2.trans (hb.mono hR.2.size)) k x hxk, hR.below hb⟩
      obtain ⟨⟨b0, f0, rfl, hnc, x0⟩, -⟩ := HF.out wr (Below.refl _ _)
      have hkc : k < c := by omega
      have HF2 : Hid (∀ W, Below wr.heap.size wr W → W.cell? ⟨b0, f0 + k, none⟩ = some (.string (txt x)) ∧ RowS w1 W (.slice oo acc.length oc) acc) := fun W hb => by
        obtain ⟨⟨_, _, e1, _, q1⟩, q2⟩ := HF.out W hb
        cases e1
        exact ⟨q1, q2⟩
      have HT : Hid (oneE N a.data.toList b.data.toList x ≠ [] ∨ N = nPatsubst → (acc ++ [oneE N a.data.toList b.data.toList x]) ++ eachT N a.data.toList b.data.toList (ws.drop (k + 1)) = eachT N a.data.toList b.data.toList ws) := fun h => by
        rw [← HA.out, hnx, if_pos h, List.append_assoc]
      have HT2 : Hid (¬ (oneE N a.data.toList b.data.toList x ≠ [] ∨ N = nPatsubst) → acc ++ eachT N a.data.toList b.data.toList (ws.drop (k + 1)) = eachT N a.data.toList b.data.toList ws) := fun h => by
        rw [← HA.out, hnx, if_neg h]; rfl
      have hal2 : (acc ++ [x]).length ≤ k + 1 := by simp; omega
      clear hnx hxk hnc HF hR HA
      by_cases c0 : N = nStrip
      · have cc := c0
        clear c0
        have HO : Hid (oneE N a.data.toList b.data.toList x = x) := by show _ = _; rw [cc]; rfl
        have HP : Hid ((N = nPatsubst) = False) := by show _ = _; rw [cc]; simp only [eq_iff_iff, iff_false]; decide
        have q0 : (s.toList == [115, 116, 114, 105, 112]) = true := by rw [HS.out, cc]; decide
        have q1 : (s.toList == [112, 97, 116, 115, 117, 98, 115, 116]) = false := by rw [HS.out, cc]; decide
        have q2 : (s.toList == [102, 105, 108, 116, 101, 114]) = false := by rw [HS.out, cc]; decide
        have q3 : (s.toList == [102, 105, 108, 116, 101, 114, 45, 111, 117, 116]) = false := by rw [HS.out, cc]; decide
        have q4 : (s.toList == [97, 100, 100, 115, 117, 102, 102, 105, 120]) = false := by rw [HS.out, cc]; decide
        have q5 : (s.toList == [97, 100, 100, 112, 114, 101, 102, 105, 120]) = false := by rw [HS.out, cc]; decide
        clear cc
        have hv : ¬ x = [] := HXe.out
        have HE : Hid ((acc ++ [x]) ++ eachT N a.data.toList b.data.toList (ws.drop (k + 1)) = eachT N a.data.toList b.data.toList ws) := by have := HT.out (.inl (by rw [HO.out]; exact hv)); rwa [HO.out] at this
        have ev : (txt x).toList.isEmpty = false := by rw [txt_toL]; simpa using hv
        obtain ⟨po, pc, w3, hrun, hR3⟩ := (HF2.out wr (Below.refl _ _)).2.push x (by omega) 99
        have HR3 := Lib.hid hR3
        clear hR3
        clear hv
        go_wp2_with (at_builtin; refine wpList_append_eq rfl _ _ 99 rfl _ _ _ w3 rfl rfl hrun ?_)
        go_roundw
        case rel => exact ⟨k + 1, acc ++ [x], hkn, by go_num, HE.out, by simp; omega, HR3.out⟩
        case measure => simp [intOf]; omega
      by_cases c1 : N = nPatsubst
      · have cc := c1
        clear c0 c1
        have HO : Hid (oneE N a.data.toList b.data.toList x = substL a.data.toList b.data.toList x) := by show _ = _; rw [cc]; rfl
        have HP : Hid ((N = nPatsubst) = True) := by show _ = _; rw [cc]; simp
        have q0 : (s.toList == [115, 116, 114, 105, 112]) = false := by rw [HS.out, cc]; decide
        have q1 : (s.toList == [112, 97, 116, 115, 117, 98, 115, 116]) = true := by rw [HS.out, cc]; decide
        have q2 : (s.toList == [102, 105, 108, 116, 101, 114]) = false := by rw [HS.out, cc]; decide
        have q3 : (s.toList == [102, 105, 108, 116, 101, 114, 45, 111, 117, 116]) = false := by rw [HS.out, cc]; decide
        have q4 : (s.toList == [97, 100, 100, 115, 117, 102, 102, 105, 120]) = false := by rw [HS.out, cc]; decide
        have q5 : (s.toList == [97, 100, 100, 112, 114, 101, 102, 105, 120]) = false := by rw [HS.out, cc]; decide
        clear cc
        have hf := refSubst_any a b (txt x) (by omega) (by omega) (by rw [txt_size]; omega)
        rw [txt_data] at hf
        obtain ⟨v, hvv⟩ : ∃ v, v = substL a.data.toList b.data.toList x := ⟨_, rfl⟩
        rw [← hvv] at HO hf
        clear hvv
        have HSub := Lib.hid hf
        clear hf
        have HE : Hid ((acc ++ [v]) ++ eachT N a.data.toList b.data.toList (ws.drop (k + 1)) = eachT N a.data.toList b.data.toList ws) := by have := HT.out (.inr (by rw [HP.out]; trivial)); rwa [HO.out] at this
        go_wp2_with fail
        refine (HSub.out _).mono ?_
        rintro e w4 ⟨rfl, nd, rfl⟩
        have hb4 : Below wr.heap.size wr (wr.drewN nd) := below_drewN (Below.refl _ wr) nd
        generalize wr.drewN nd = w4 at hb4 ⊢
        obtain ⟨po, pc, w3, hrun, hR3⟩ := (HF2.out w4 hb4).2.push v (by omega) 99
        have HR3 := Lib.hid hR3
        clear hR3
        by_cases hv : v = []
        · have ev : (txt v).toList = [] := by rw [txt_toL]; exact hv
          clear hv
          go_wp2_with (at_builtin; refine wpList_append_eq rfl _ _ 99 rfl _ _ _ w3 rfl rfl hrun ?_)
          go_roundw
          case rel => exact ⟨k + 1, acc ++ [v], hkn, by go_num, HE.out, by simp; omega, HR3.out⟩
          case measure => simp [intOf]; omega
        · have ev : (txt v).toList.isEmpty = false := by rw [txt_toL]; simpa using hv
          clear hv
          go_wp2_with (at_builtin; refine wpList_append_eq rfl _ _ 99 rfl _ _ _ w3 rfl rfl hrun ?_)
          go_roundw
          case rel => exact ⟨k + 1, acc ++ [v], hkn, by go_num, HE.out, by simp; omega, HR3.out⟩
          case measure => simp [intOf]; omega
      by_cases c2 : N = nFilter
      · have cc := c2
        clear c0 c1 c2
        have HO : Hid (oneE N a.data.toList b.data.toList x = (if anyL (wordsT a.data.toList) x then x else [])) := by show _ = _; rw [cc]; rfl
        have HP : Hid ((N = nPatsubst) = False) := by show _ = _; rw [cc]; simp only [eq_iff_iff, iff_false]; decide
        have q0 : (s.toList == [115, 116, 114, 105, 112]) = false := by rw [HS.out, cc]; decide
        have q1 : (s.toList == [112, 97, 116, 115, 117, 98, 115, 116]) = false := by rw [HS.out, cc]; decide
        have q2 : (s.toList == [102, 105, 108, 116, 101, 114]) = true := by rw [HS.out, cc]; decide
        have q3 : (s.toList == [102, 105, 108, 116, 101, 114, 45, 111, 117, 116]) = false := by rw [HS.out, cc]; decide
        have q4 : (s.toList == [97, 100, 100, 115, 117, 102, 102, 105, 120]) = false := by rw [HS.out, cc]; decide
        have q5 : (s.toList == [97, 100, 100, 112, 114, 101, 102, 105, 120]) = false := by rw [HS.out, cc]; decide
        clear cc
        have HWa : Hid (∀ W, Calls Tryz.prog 51 #[.string a] W fun e W' => ∃ o c, e = .returned (.slice o (wordsT a.data.toList).length c) ∧ CellsW W' o c (wordsT a.data.toList) ∧ Below W.heap.size W W') := fun W => rwords_told a (by omega) W
        have hpl := words_few a.data.toList
        rw [size_list] at hpl
        have hpz : ∀ p ∈ wordsT a.data.toList, p.length ≤ 100000 := fun p hp => by have := (words_memT hp).2; rw [size_list] at this; omega
        have HAny : Hid (∀ o c W, CellsW W o c (wordsT a.data.toList) → Calls Tryz.prog 183 #[.slice o (wordsT a.data.toList).length c, .string (txt x)] W fun e w' => e = .returned (.bool (anyL (wordsT a.data.toList) x)) ∧ Below W.heap.size W w') := fun o c W h => rany_told _ x o c W h (by omega) hpz (by omega)
        clear hpl hpz
        generalize wordsT a.data.toList = ps at HWa HAny HO
        generalize hab : anyL ps x = ab at HAny HO
        have HKD : Hid (∀ W : World, Below wr.heap.size wr W → Below wr.heap.size wr W.drew) := fun W h => h.trans ⟨rfl, rfl, rfl, Nat.le_refl _, fun _ _ => rfl⟩
        have HKB : Hid (∀ W : World, Below wr.heap.size wr W → W.cell? ⟨b0, f0 + k, none⟩ = some (.string (txt x)) ∧ Below wr.heap.size wr W) := fun W h => ⟨(HF2.out W h).1, h⟩
        have HW9 : Hid (∀ W, Below wr.heap.size wr W → Calls Tryz.prog 51 #[.string a] W fun e W' => ∃ o c, e = .returned (.slice o ps.length c) ∧ CellsW W' o c ps ∧ W'.cell? ⟨b0, f0 + k, none⟩ = some (.string (txt x)) ∧ Below wr.heap.size wr W') := fun W h => by
          refine (HWa.out W).mono ?_
          rintro e W' ⟨o4, c4, rfl, hc4, hb4⟩
          have h9 := h.trans (hb4.mono h.size)
          exact ⟨o4, c4, rfl, hc4, (HF2.out W' h9).1, h9⟩
        have HA9 : Hid (∀ o c W, CellsW W o c ps → Below wr.heap.size wr W → Calls Tryz.prog 183 #[.slice o ps.length c, .string (txt x)] W fun e W' => e = .returned (.bool ab) ∧ W'.cell? ⟨b0, f0 + k, none⟩ = some (.string (txt x)) ∧ Below wr.heap.size wr W') := fun o c W hc h => by
          refine (HAny.out o c W hc).mono ?_
          rintro e W' ⟨rfl, hb4⟩
          have h9 := h.trans (hb4.mono h.size)
          exact ⟨rfl, (HF2.out W' h9).1, h9⟩
        clear HWa HAny hab
        generalize ps.length = pl at HW9 HA9
        have hbr : Below wr.heap.size wr wr := Below.refl _ _
        cases ab with
        | true =>
          have ev : (txt x).toList.isEmpty = false := by rw [txt_toL]; simpa using HXe.out
          have HE : Hid ((acc ++ [x]) ++ eachT N a.data.toList b.data.toList (ws.drop (k + 1)) = eachT N a.data.toList b.data.toList ws) := by have := HT.out (.inl (by rw [HO.out]; exact HXe.out)); rwa [HO.out] at this
          go_wp2_with fail
          go_region_held3 (fun W => W.cell? ⟨b0, f0 + k, none⟩ = some (.string (txt x)) ∧ Below wr.heap.size wr W)
            (first | exact ⟨by assumption, by assumption⟩ | exact HKB.out _ (HKD.out _ (by assumption)) | (go_split_ands; first | exact ⟨by assumption, by assumption⟩ | exact HKB.out _ (HKD.out _ (by assumption))))
            (first
              | (go_at_call 51; (with_reducible refine (HW9.out _ (by first | assumption | (go_split_ands; assumption))).mono ?_); rintro e w4 ⟨o4, c4, rfl, hc4, x4, hb4⟩)
              | (go_at_call 183; (with_reducible refine (HA9.out o4 c4 _ (by first | assumption | exact hc4) (by first | assumption | (go_split_ands; assumption))).mono ?_); rintro e w5 ⟨rfl, x5, hb5⟩))
          all_goals
            obtain ⟨po, pc, w3, hrun, hR3⟩ := (HF2.out w5 hb5).2.push x (by omega) 99
            have HR3 := Lib.hid hR3
            clear hR3
            go_wp2_with (at_builtin; refine wpList_append_eq rfl _ _ 99 rfl _ _ _ w3 rfl rfl hrun ?_)
            go_roundw
            case rel => exact ⟨k + 1, acc ++ [x], hkn, by go_num, HE.out, by simp; omega, HR3.out⟩
            case measure => simp [intOf]; omega
        | false =>
          have HE : Hid (acc ++ eachT N a.data.toList b.data.toList (ws.drop (k + 1)) = eachT N a.data.toList b.data.toList ws) := HT2.out (by rw [HO.out, HP.out]; simp)
          go_wp2_with fail
          go_region_held3 (fun W => W.cell? ⟨b0, f0 + k, none⟩ = some (.string (txt x)) ∧ Below wr.heap.size wr W)
            (first | exact ⟨by assumption, by assumption⟩ | exact HKB.out _ (HKD.out _ (by assumption)) | (go_split_ands; first | exact ⟨by assumption, by assumption⟩ | exact HKB.out _ (HKD.out _ (by assumption))))
            (first
              | (go_at_call 51; (with_reducible refine (HW9.out _ (by first | assumption | (go_split_ands; assumption))).mono ?_); rintro e w4 ⟨o4, c4, rfl, hc4, x4, hb4⟩)
              | (go_at_call 183; (with_reducible refine (HA9.out o4 c4 _ (by first | assumption | exact hc4) (by first | assumption | (go_split_ands; assumption))).mono ?_); rintro e w5 ⟨rfl, x5, hb5⟩))
          all_goals
            have HR3 := Lib.hid (HF2.out w5 hb5).2
            go_wp2_with fail
            go_roundw
            case rel => exact ⟨k + 1, acc, hkn, by go_num, HE.out, by omega, HR3.out⟩
            case measure => simp [intOf]; omega
      by_cases c3 : N = nFilterOut
      · have cc := c3
        clear c0 c1 c2 c3
        have HO : Hid (oneE N a.data.toList b.data.toList x = (if anyL (wordsT a.data.toList) x then [] else x)) := by show _ = _; rw [cc]; rfl
        have HP : Hid ((N = nPatsubst) = False) := by show _ = _; rw [cc]; simp only [eq_iff_iff, iff_false]; decide
        have q0 : (s.toList == [115, 116, 114, 105, 112]) = false := by rw [HS.out, cc]; decide
        have q1 : (s.toList == [112, 97, 116, 115, 117, 98, 115, 116]) = false := by rw [HS.out, cc]; decide
        have q2 : (s.toList == [102, 105, 108, 116, 101, 114]) = false := by rw [HS.out, cc]; decide
        have q3 : (s.toList == [102, 105, 108, 116, 101, 114, 45, 111, 117, 116]) = true := by rw [HS.out, cc]; decide
        have q4 : (s.toList == [97, 100, 100, 115, 117, 102, 102, 105, 120]) = false := by rw [HS.out, cc]; decide
        have q5 : (s.toList == [97, 100, 100, 112, 114, 101, 102, 105, 120]) = false := by rw [HS.out, cc]; decide
        clear cc
        have HWa : Hid (∀ W, Calls Tryz.prog 51 #[.string a] W fun e W' => ∃ o c, e = .returned (.slice o (wordsT a.data.toList).length c) ∧ CellsW W' o c (wordsT a.data.toList) ∧ Below W.heap.size W W') := fun W => rwords_told a (by omega) W
        have hpl := words_few a.data.toList
        rw [size_list] at hpl
        have hpz : ∀ p ∈ wordsT a.data.toList, p.length ≤ 100000 := fun p hp => by have := (words_memT hp).2; rw [size_list] at this; omega
        have HAny : Hid (∀ o c W, CellsW W o c (wordsT a.data.toList) → Calls Tryz.prog 183 #[.slice o (wordsT a.data.toList).length c, .string (txt x)] W fun e w' => e = .returned (.bool (anyL (wordsT a.data.toList) x)) ∧ Below W.heap.size W w') := fun o c W h => rany_told _ x o c W h (by omega) hpz (by omega)
        clear hpl hpz
        generalize wordsT a.data.toList = ps at HWa HAny HO
        generalize hab : anyL ps x = ab at HAny HO
        have HKD : Hid (∀ W : World, Below wr.heap.size wr W → Below wr.heap.size wr W.drew) := fun W h => h.trans ⟨rfl, rfl, rfl, Nat.le_refl _, fun _ _ => rfl⟩
        have HKB : Hid (∀ W : World, Below wr.heap.size wr W → W.cell? ⟨b0, f0 + k, none⟩ = some (.string (txt x)) ∧ Below wr.heap.size wr W) := fun W h => ⟨(HF2.out W h).1, h⟩
        have HW9 : Hid (∀ W, Below wr.heap.size wr W → Calls Tryz.prog 51 #[.string a] W fun e W' => ∃ o c, e = .returned (.slice o ps.length c) ∧ CellsW W' o c ps ∧ W'.cell? ⟨b0, f0 + k, none⟩ = some (.string (txt x)) ∧ Below wr.heap.size wr W') := fun W h => by
          refine (HWa.out W).mono ?_
          rintro e W' ⟨o4, c4, rfl, hc4, hb4⟩
          have h9 := h.trans (hb4.mono h.size)
          exact ⟨o4, c4, rfl, hc4, (HF2.out W' h9).1, h9⟩
        have HA9 : Hid (∀ o c W, CellsW W o c ps → Below wr.heap.size wr W → Calls Tryz.prog 183 #[.slice o ps.length c, .string (txt x)] W fun e W' => e = .returned (.bool ab) ∧ W'.cell? ⟨b0, f0 + k, none⟩ = some (.string (txt x)) ∧ Below wr.heap.size wr W') := fun o c W hc h => by
          refine (HAny.out o c W hc).mono ?_
          rintro e W' ⟨rfl, hb4⟩
          have h9 := h.trans (hb4.mono h.size)
          exact ⟨rfl, (HF2.out W' h9).1, h9⟩
        clear HWa HAny hab
        generalize ps.length = pl at HW9 HA9
        have hbr : Below wr.heap.size wr wr := Below.refl _ _
        cases ab with
        | true =>
          have HE : Hid (acc ++ eachT N a.data.toList b.data.toList (ws.drop (k + 1)) = eachT N a.data.toList b.data.toList ws) := HT2.out (by rw [HO.out, HP.out]; simp)
          go_wp2_with fail
          go_region_held3 (fun W => W.cell? ⟨b0, f0 + k, none⟩ = some (.string (txt x)) ∧ Below wr.heap.size wr W)
            (first | exact ⟨by assumption, by assumption⟩ | exact HKB.out _ (HKD.out _ (by assumption)) | (go_split_ands; first | exact ⟨by assumption, by assumption⟩ | exact HKB.out _ (HKD.out _ (by assumption))))
            (first
              | (go_at_call 51; (with_reducible refine (HW9.out _ (by first | assumption | (go_split_ands; assumption))).mono ?_); rintro e w4 ⟨o4, c4, rfl, hc4, x4, hb4⟩)
              | (go_at_call 183; (with_reducible refine (HA9.out o4 c4 _ (by first | assumption | exact hc4) (by first | assumption | (go_split_ands; assumption))).mono ?_); rintro e w5 ⟨rfl, x5, hb5⟩))
          all_goals
            have HR3 := Lib.hid (HF2.out w5 hb5).2
            go_wp2_with fail
            go_roundw
            case rel => exact ⟨k + 1, acc, hkn, by go_num, HE.out, by omega, HR3.out⟩
            case measure => simp [intOf]; omega
        | false =>
          have ev : (txt x).toList.isEmpty = false := by rw [txt_toL]; simpa using HXe.out
          have HE : Hid ((acc ++ [x]) ++ eachT N a.data.toList b.data.toList (ws.drop (k + 1)) = eachT N a.data.toList b.data.toList ws) := by have := HT.out (.inl (by rw [HO.out]; exact HXe.out)); rwa [HO.out] at this
          go_wp2_with fail
          go_region_held3 (fun W => W.cell? ⟨b0, f0 + k, none⟩ = some (.string (txt x)) ∧ Below wr.heap.size wr W)
            (first | exact ⟨by assumption, by assumption⟩ | exact HKB.out _ (HKD.out _ (by assumption)) | (go_split_ands; first | exact ⟨by assumption, by assumption⟩ | exact HKB.out _ (HKD.out _ (by assumption))))
            (first
              | (go_at_call 51; (with_reducible refine (HW9.out _ (by first | assumption | (go_split_ands; assumption))).mono ?_); rintro e w4 ⟨o4, c4, rfl, hc4, x4, hb4⟩)
              | (go_at_call 183; (with_reducible refine (HA9.out o4 c4 _ (by first | assumption | exact hc4) (by first | assumption | (go_split_ands; assumption))).mono ?_); rintro e w5 ⟨rfl, x5, hb5⟩))
          all_goals
            obtain ⟨po, pc, w3, hrun, hR3⟩ := (HF2.out w5 hb5).2.push x (by omega) 99
            have HR3 := Lib.hid hR3
            clear hR3
            go_wp2_with (at_builtin; refine wpList_append_eq rfl _ _ 99 rfl _ _ _ w3 rfl rfl hrun ?_)
            go_roundw
            case rel => exact ⟨k + 1, acc ++ [x], hkn, by go_num, HE.out, by simp; omega, HR3.out⟩
            case measure => simp [intOf]; omega
      by_cases c4 : N = nAddsuffix
      · have cc := c4
        clear c0 c1 c2 c3 c4
        have HO : Hid (oneE N a.data.toList b.data.toList x = x ++ a.data.toList) := by show _ = _; rw [cc]; rfl
        have HP : Hid ((N = nPatsubst) = False) := by show _ = _; rw [cc]; simp only [eq_iff_iff, iff_false]; decide
        have q0 : (s.toList == [115, 116, 114, 105, 112]) = false := by rw [HS.out, cc]; decide
        have q1 : (s.toList == [112, 97, 116, 115, 117, 98, 115, 116]) = false := by rw [HS.out, cc]; decide
        have q2 : (s.toList == [102, 105, 108, 116, 101, 114]) = false := by rw [HS.out, cc]; decide
        have q3 : (s.toList == [102, 105, 108, 116, 101, 114, 45, 111, 117, 116]) = false := by rw [HS.out, cc]; decide
        have q4 : (s.toList == [97, 100, 100, 115, 117, 102, 102, 105, 120]) = true := by rw [HS.out, cc]; decide
        have q5 : (s.toList == [97, 100, 100, 112, 114, 101, 102, 105, 120]) = false := by rw [HS.out, cc]; decide
        clear cc
        have hcat : (txt x ++ a).size ≤ 1000000 := by rw [ByteArray.size_append, txt_size]; omega
        have ecat : txt x ++ a = txt (x ++ a.data.toList) := by rw [← txt_app, txt_toList]
        obtain ⟨v, hvv⟩ : ∃ v, v = x ++ a.data.toList := ⟨_, rfl⟩
        have hv : ¬ v = [] := by rw [hvv]; intro h9; have := congrArg List.length h9; have := List.length_pos_iff.2 HXe.out; rw [List.length_append, List.length_nil] at *; omega
        rw [← hvv] at HO ecat
        clear hvv
        have HE : Hid ((acc ++ [v]) ++ eachT N a.data.toList b.data.toList (ws.drop (k + 1)) = eachT N a.data.toList b.data.toList ws) := by have := HT.out (.inl (by rw [HO.out]; exact hv)); rwa [HO.out] at this
        have ev : (txt v).toList.isEmpty = false := by rw [txt_toL]; simpa using hv
        obtain ⟨po, pc, w3, hrun, hR3⟩ := (HF2.out wr (Below.refl _ _)).2.push v (by omega) 99
        have HR3 := Lib.hid hR3
        clear hR3
        clear hv
        go_wp2_with (at_builtin; refine wpList_append_eq rfl _ _ 99 rfl _ _ _ w3 rfl rfl hrun ?_)
        go_roundw
        case rel => exact ⟨k + 1, acc ++ [v], hkn, by go_num, HE.out, by simp; omega, HR3.out⟩
        case measure => simp [intOf]; omega
      by_cases c5 : N = nAddprefix
      · have cc := c5
        clear c0 c1 c2 c3 c4 c5
        have HO : Hid (oneE N a.data.toList b.data.toList x = a.data.toList ++ x) := by show _ = _; rw [cc]; rfl
        have HP : Hid ((N = nPatsubst) = False) := by show _ = _; rw [cc]; simp only [eq_iff_iff, iff_false]; decide
        have q0 : (s.toList == [115, 116, 114, 105, 112]) = false := by rw [HS.out, cc]; decide
        have q1 : (s.toList == [112, 97, 116, 115, 117, 98, 115, 116]) = false := by rw [HS.out, cc]; decide
        have q2 : (s.toList == [102, 105, 108, 116, 101, 114]) = false := by rw [HS.out, cc]; decide
        have q3 : (s.toList == [102, 105, 108, 116, 101, 114, 45, 111, 117, 116]) = false := by rw [HS.out, cc]; decide
        have q4 : (s.toList == [97, 100, 100, 115, 117, 102, 102, 105, 120]) = false := by rw [HS.out, cc]; decide
        have q5 : (s.toList == [97, 100, 100, 112, 114, 101, 102, 105, 120]) = true := by rw [HS.out, cc]; decide
        clear cc
        have hcat : (a ++ txt x).size ≤ 1000000 := by rw [ByteArray.size_append, txt_size]; omega
        have ecat : a ++ txt x = txt (a.data.toList ++ x) := by rw [← txt_app, txt_toList]
        obtain ⟨v, hvv⟩ : ∃ v, v = a.data.toList ++ x := ⟨_, rfl⟩
        have hv : ¬ v = [] := by rw [hvv]; intro h9; have := congrArg List.length h9; have := List.length_pos_iff.2 HXe.out; rw [List.length_append, List.length_nil] at *; omega
        rw [← hvv] at HO ecat
        clear hvv
        have HE : Hid ((acc ++ [v]) ++ eachT N a.data.toList b.data.toList (ws.drop (k + 1)) = eachT N a.data.toList b.data.toList ws) := by have := HT.out (.inl (by rw [HO.out]; exact hv)); rwa [HO.out] at this
        have ev : (txt v).toList.isEmpty = false := by rw [txt_toL]; simpa using hv
        obtain ⟨po, pc, w3, hrun, hR3⟩ := (HF2.out wr (Below.refl _ _)).2.push v (by omega) 99
        have HR3 := Lib.hid hR3
        clear hR3
        clear hv
        go_wp2_with (at_builtin; refine wpList_append_eq rfl _ _ 99 rfl _ _ _ w3 rfl rfl hrun ?_)
        go_roundw
        case rel => exact ⟨k + 1, acc ++ [v], hkn, by go_num, HE.out, by simp; omega, HR3.out⟩
        case measure => simp [intOf]; omega
      have HP : Hid (partOf N x = oneE N a.data.toList b.data.toList x) := by show _ = _; unfold oneE; rw [if_neg c0, if_neg c1, if_neg c2, if_neg c3, if_neg c4, if_neg c5]
      have HNp := Lib.hid c1
      have q0 : (s.toList == [115, 116, 114, 105, 112]) = false := by rw [HS.out]; exact beq_eq_false_iff_ne.2 c0
      have q1 : (s.toList == [112, 97, 116, 115, 117, 98, 115, 116]) = false := by rw [HS.out]; exact beq_eq_false_iff_ne.2 c1
      have q2 : (s.toList == [102, 105, 108, 116, 101, 114]) = false := by rw [HS.out]; exact beq_eq_false_iff_ne.2 c2
      have q3 : (s.toList == [102, 105, 108, 116, 101, 114, 45, 111, 117, 116]) = false := by rw [HS.out]; exact beq_eq_false_iff_ne.2 c3
      have q4 : (s.toList == [97, 100, 100, 115, 117, 102, 102, 105, 120]) = false := by rw [HS.out]; exact beq_eq_false_iff_ne.2 c4
      have q5 : (s.toList == [97, 100, 100, 112, 114, 101, 102, 105, 120]) = false := by rw [HS.out]; exact beq_eq_false_iff_ne.2 c5
      clear c0 c1 c2 c3 c4 c5
      have hpart := part10_any s (txt x) (by rw [txt_size]; omega)
      rw [txt_data, ← Lib.toList_data, HS.out, HP.out] at hpart
      obtain ⟨v, hvv⟩ : ∃ v, v = oneE N a.data.toList b.data.toList x := ⟨_, rfl⟩
      rw [← hvv] at hpart
      have HPart := Lib.hid hpart
      have HV := Lib.hid hvv
      clear hpart hvv HP
      by_cases hv : v = []
      · have HE : Hid (acc ++ eachT N a.data.toList b.data.toList (ws.drop (k + 1)) = eachT N a.data.toList b.data.toList ws) := HT2.out (by rw [← HV.out, hv]; exact fun h => h.elim (fun h => h rfl) HNp.out)
        have ev : (txt v).toList = [] := by rw [txt_toL]; exact hv
        have HR3 := Lib.hid (HF2.out wr (Below.refl _ _)).2
        clear hv
        go_wp2_with fail
        refine (HPart.out _).mono ?_
        rintro e w4 ⟨rfl, rfl⟩
        go_wp2_with fail
        go_roundw
        case rel => exact ⟨k + 1, acc, hkn, by go_num, HE.out, by omega, HR3.out⟩
        case measure => simp [intOf]; omega
      · have HE : Hid ((acc ++ [v]) ++ eachT N a.data.toList b.data.toList (ws.drop (k + 1)) = eachT N a.data.toList b.data.toList ws) := by have := HT.out (.inl (by rw [← HV.out]; exact hv)); rwa [← HV.out] at this
        have ev : (txt v).toList.isEmpty = false := by rw [txt_toL]; simpa using hv
        obtain ⟨po, pc, w3, hrun, hR3⟩ := (HF2.out wr (Below.refl _ _)).2.push v (by omega) 99
        have HR3 := Lib.hid hR3
        clear hR3
        clear hv
        go_wp2_with fail
        refine (HPart.out _).mono ?_
        rintro e w4 ⟨rfl, rfl⟩
        go_wp2_with (at_builtin; refine wpList_append_eq rfl _ _ 99 rfl _ _ _ w3 rfl rfl hrun ?_)
        go_roundw
        case rel => exact ⟨k + 1, acc ++ [v], hkn, by go_num, HE.out, by simp; omega, HR3.out⟩
        case measure => simp [intOf]; omega
    · have HE : Hid (RowPost (eachT N a.data.toList b.data.toList ws) w (.returned (.slice oo acc.length oc)) wr) := by
        have e : acc = eachT N a.data.toList b.data.toList ws := by
          rw [← HA.out, each_done _ _ _ (by rw [← HN.out]; omega), List.append_nil]
        rw [← e]
        exact hR.post HB.out
      clear HA hR hal
      go_wp2_with fail
      go_ret
      exact HE.out
end Go.Proofs.YtbngoodjgijmgaaGreatDoor

namespace Go.Proofs.YtbngoodjgijmgaaGreatDoor
open Go.RowKit Go.Shelf

theorem rjoin_told (l : List BT) (o : Option Addr) (c : Nat) (w : World) (h : CellsW w o c l) (hn : l.length ≤ 10000) (hl : ∀ x ∈ l, x.length ≤ 20000) :
    Calls Tryz.prog 80 #[.slice o l.length c] w fun e w' => e = .returned (.string (txt (joinT l))) ∧ w = w' := refJoin_big _ l w h.reads hn hl
theorem args_at {w : World} {o : Option Addr} {c : Nat} {xs : List BT} (h : CellsW w o c xs) (hx : xs ≠ []) : ∃ g f, o = some ⟨g, f, none⟩ ∧ xs.length ≤ c ∧ ∀ W, Below w.heap.size w W → ∀ k x, xs[k]? = some x → W.cell? ⟨g, f + k, none⟩ = some (.string (txt x)) := by
  obtain ⟨x0, r, rfl⟩ := List.exists_cons_of_ne_nil hx
  obtain ⟨g, f, rfl, h2, h3, h4⟩ := h 0 x0 rfl
  refine ⟨g, f, rfl, h3, fun W hb k x hk => ?_⟩
  obtain ⟨g', f', e, h2', h3', h4'⟩ := h.below hb k x hk
  cases e
  exact h4'
theorem args1 {w : World} {o : Option Addr} {c : Nat} {a : BT} (h : CellsW w o c [a]) : ∃ g f, o = some ⟨g, f, none⟩ ∧ 1 ≤ c ∧ Hid (∀ W, Below w.heap.size w W → W.cell? ⟨g, f, none⟩ = some (.string (txt a))) := by
  obtain ⟨g, f, e, hc, hx⟩ := args_at h (by simp)
  exact ⟨g, f, e, hc, fun W hb => hx W hb 0 _ rfl⟩
theorem args2 {w : World} {o : Option Addr} {c : Nat} {a b : BT} (h : CellsW w o c [a, b]) : ∃ g f, o = some ⟨g, f, none⟩ ∧ 2 ≤ c ∧ Hid (∀ W, Below w.heap.size w W → W.cell? ⟨g, f, none⟩ = some (.string (txt a)) ∧ W.cell? ⟨g, f + 1, none⟩ = some (.string (txt b))) := by
  obtain ⟨g, f, e, hc, hx⟩ := args_at h (by simp)
  exact ⟨g, f, e, hc, fun W hb => ⟨hx W hb 0 _ rfl, hx W hb 1 _ rfl⟩⟩
theorem args3 {w : World} {o : Option Addr} {c : Nat} {a b d : BT} (h : CellsW w o c [a, b, d]) : ∃ g f, o = some ⟨g, f, none⟩ ∧ 3 ≤ c ∧ Hid (∀ W, Below w.heap.size w W → W.cell? ⟨g, f, none⟩ = some (.string (txt a)) ∧ W.cell? ⟨g, f + 1, none⟩ = some (.string (txt b)) ∧ W.cell? ⟨g, f + 2, none⟩ = some (.string (txt d))) := by
  obtain ⟨g, f, e, hc, hx⟩ := args_at h (by simp)
  exact ⟨g, f, e, hc, fun W hb => ⟨hx W hb 0 _ rfl, hx W hb 1 _ rfl, hx W hb 2 _ rfl⟩⟩
theorem rwords_toldT (t : BT) (hs : t.length ≤ 100000) (W : World) :
    Calls Tryz.prog 51 #[.string (txt t)] W fun e W' => ∃ o c, e = .returned (.slice o (wordsT t).length c) ∧ CellsW W' o c (wordsT t) ∧ Below W.heap.size W W' := by
  have := rwords_told (txt t) (by rw [txt_size]; exact hs) W
  rw [txt_data] at this
  exact this
/-- What answer tells: a text, and whether the arguments are right. -/
def AnsPost (r : Option BT) (w : World) (e : Ending) (w' : World) : Prop :=
  Below w.heap.size w w' ∧ ((∃ s, r = some s ∧ e = .returned (.tuple #[.string (txt s), .bool true])) ∨ ∃ s, r = none ∧ e = .returned (.tuple #[.string (txt s), .bool false]))
theorem ans_ok {r : Option BT} {s : BT} {w w' : World} (h : r = some s) (hb : Below w.heap.size w w') : AnsPost r w (.returned (.tuple #[.string (txt s), .bool true])) w' := ⟨hb, .inl ⟨s, h, rfl⟩⟩
theorem ans_no {r : Option BT} {s : BT} {w w' : World} (h : r = none) (hb : Below w.heap.size w w') : AnsPost r w (.returned (.tuple #[.string (txt s), .bool false])) w' := ⟨hb, .inr ⟨s, h, rfl⟩⟩
theorem numV_nn (l : BT) : 0 ≤ numV l := by
  unfold numV
  split
  · next h =>
    have : allB digB l = true := by simp [numB] at h; exact h.2
    exact (numVal_bd l this).1
  · exact Int.le_refl _
/-- Is a text a number, and not below a least one? -/
def okN (a : BT) (least : Int) : Bool := numB (trimOf a) && decide (least ≤ numV (trimOf a))
theorem word_yes {a b t : BT} (ha : okN a 1 = true) (hb : okN b 0 = true) : wordT a b t = some (joinT (someI (numV (trimOf a)) (numV (trimOf b)) 0 (wordsT t))) := by
  unfold okN at ha hb
  simp only [Bool.and_eq_true, decide_eq_true_eq] at ha hb
  unfold wordT
  rw [if_pos ⟨ha.1, hb.1, ha.2⟩]
  have e1 : ((numV (trimOf a)).toNat : Int) = numV (trimOf a) := Int.toNat_of_nonneg (by omega)
  have e2 : ((numV (trimOf b)).toNat : Int) = numV (trimOf b) := Int.toNat_of_nonneg hb.2
  conv => rhs; rw [← e1, ← e2]
  rw [someI_N _ _ (by omega)]
theorem word_no {a b t : BT} (h : okN a 1 = false ∨ okN b 0 = false) : wordT a b t = none := by
  unfold wordT
  refine if_neg fun hh => ?_
  obtain ⟨h1, h2, h3⟩ := hh
  have h4 := numV_nn (trimOf b)
  unfold okN at h
  simp [h1, h2] at h
  omega
theorem okN_less {a : BT} (h : okN a 1 = true) : okN a 0 = true := by
  unfold okN at h ⊢
  simp only [Bool.and_eq_true, decide_eq_true_eq] at h ⊢
  exact ⟨h.1, by omega⟩
theorem first_isO (w : List BT) : someI 1 1 0 w = w.take 1 := by
  have := someI_N 1 1 (by omega) w
  unfold someN at this
  simpa using this
theorem last_is (w : List BT) : someI (w.length : Int) (w.length : Int) 0 w = w.drop (w.length - 1) := by
  cases w with
  | nil => rfl
  | cons x r =>
    rw [someI_N _ _ (by simp)]
    unfold someN
    rw [List.take_of_length_le (Nat.le_refl _)]
theorem ref_number (a : BT) (least : Int) (ha : a.length ≤ 100000) (w : World) : Calls Tryz.prog 149 #[.string (txt a), .int .i64 least] w fun e w' =>
    e = .returned (.tuple #[.int .i64 (numV (trimOf a)), .bool (okN a least)]) ∧ w = w' := by
  have := number10_any (txt a) least (by rw [txt_size]; omega) w
  rw [txt_data] at this
  exact this
theorem ref_some (a b : Int) (t : BT) (ht : t.length ≤ 10000) (w : World) : Calls Tryz.prog 150 #[.int .i64 a, .int .i64 b, .string (txt t)] w (RowPost (someI a b 0 (wordsT t)) w) := by
  have := some10_any a b (txt t) (by rw [txt_size]; omega) w
  rw [txt_data] at this
  exact this
theorem ref_zip (a b : BT) (ha : a.length ≤ 10000) (hb : b.length ≤ 10000) (w : World) : Calls Tryz.prog 152 #[.string (txt a), .string (txt b)] w (RowPost (zipT (wordsT a) (wordsT b)) w) := by
  have := join10_any (txt a) (txt b) (by rw [txt_size]; omega) (by rw [txt_size]; omega) w
  rw [txt_data, txt_data] at this
  exact this
theorem ref_each (s : ByteArray) (a b t : BT) (ha : a.length ≤ 4000) (hb : b.length ≤ 4000) (ht : t.length ≤ 4000) (w : World) : Calls Tryz.prog 146 #[.string s, .string (txt a), .string (txt b), .string (txt t)] w (RowPost (eachT s.data.toList a b (wordsT t)) w) := by
  have := each10_any s (txt a) (txt b) (txt t) (by rw [txt_size]; omega) (by rw [txt_size]; omega) (by rw [txt_size]; omega) w
  rw [txt_data, txt_data, txt_data] at this
  exact this
theorem ref_subst (a b t : BT) (ha : a.length ≤ 4000) (hb : b.length ≤ 4000) (ht : t.length ≤ 4000) (w : World) : Calls Tryz.prog 145 #[.string (txt a), .string (txt b), .string (txt t)] w fun e w' => e = .returned (.string (txt (subT a b t))) ∧ w = w' := by
  have := subst10_big (txt a) (txt b) (txt t) (by rw [txt_size]; omega) (by rw [txt_size]; omega) (by rw [txt_size]; omega) w
  rw [txt_data, txt_data, txt_data] at this
  exact this
theorem ref_found (a t : BT) (ha : a.length ≤ 4000) (ht : t.length ≤ 4000) (w : World) : Calls Tryz.prog 147 #[.string (txt a), .string (txt t)] w fun e w' => e = .returned (.bool (foundB a t)) ∧ w = w' := by
  have := found10_any (txt a) (txt t) (by rw [txt_size]; omega) (by rw [txt_size]; omega) w
  rw [txt_data, txt_data] at this
  exact this
/-- Rows that are short enough to be joined. -/
def Short (l : List BT) : Prop := l.length ≤ 10000 ∧ ∀ x ∈ l, x.length ≤ 20000
theorem short_words {t : BT} (h : t.length ≤ 4000) : Short (wordsT t) := ⟨by have := words_few t; omega, fun x hx => by have := (words_memT hx).2; omega⟩
theorem short_some {t : BT} (h : t.length ≤ 4000) (a b : Int) : Short (someI a b 0 (wordsT t)) :=
  ⟨Nat.le_trans (someI_len a b 0 _) (short_words h).1, fun x hx => (short_words h).2 x (someI_mem a b 0 _ x hx)⟩
theorem short_sort {t : BT} (h : t.length ≤ 4000) : Short (sortT (wordsT t)) := ⟨Nat.le_trans (sort_len _) (short_words h).1, fun x hx => (short_words h).2 x ((sort_mem _ x).1 hx)⟩
theorem short_zip {a b : BT} (ha : a.length ≤ 4000) (hb : b.length ≤ 4000) : Short (zipT (wordsT a) (wordsT b)) :=
  ⟨by have := zip_len (wordsT a) (wordsT b); have := words_few a; have := words_few b; omega, fun x hx => by
    have := zip_mem 4000 (fun w hw => by have := (words_memT hw).2; omega) (fun w hw => by have := (words_memT hw).2; omega) hx
    omega⟩
theorem short_eachO {t a b : BT} (n : BT) (h : t.length ≤ 4000) (ha : a.length ≤ 4000) (hb : b.length ≤ 4000) : Short (eachT n a b (wordsT t)) :=
  ⟨Nat.le_trans (each_len _ _ _ _) (short_words h).1, fun x hx => by
    obtain ⟨w, hw, rfl⟩ := each_mem hx
    have h1 := one_len n a b w
    have h2 := (words_memT hw).2
    omega⟩
theorem Short.told {l : List BT} (h : Short l) {r : BT} (hr : r = joinT l) : Hid (∀ o c W, CellsW W o c l → Calls Tryz.prog 80 #[.slice o l.length c] W fun e w' => e = .returned (.string (txt r)) ∧ W = w') := fun o c W hc => by
  rw [hr]
  exact rjoin_told l o c W hc h.1 h.2
end Go.Proofs.YtbngoodjgijmgaaGreatDoor

namespace Go.Proofs.YtbngoodjgijmgaaGreatDoor
open Go.RowKit Go.Shelf
attribute [local go_sem] Oper.semAt_some

set_option maxRecDepth 100000 in
set_option maxHeartbeats 4000000 in
theorem ans_subst (s : ByteArray) (hs : s.data.toList = nSubst) (o : Option Addr) (c : Nat) (a b t : BT) (ha : a.length ≤ 4000) (hb : b.length ≤ 4000) (ht : t.length ≤ 4000) (w : World) (hc : CellsW w o c [a, b, t]) :
    Calls Tryz.prog 104 #[.string s, .slice o 3 c] w (AnsPost (ansT nSubst [a, b, t]) w) := by
  obtain ⟨g, f, rfl, hcc, HC⟩ := args3 hc
  have HW := Lib.hid (fun W => rwords_toldT t (by omega) W)
  have HSub := Lib.hid (fun W => ref_subst a b t ha hb ht W)
  have HE : Hid (ansT nSubst [a, b, t] = some (subT a b t)) := rfl
  generalize subT a b t = r at HSub HE
  generalize wordsT t = ws at HW
  generalize hln : ws.length = ln at HW
  clear hln
  have q0 : (s.toList == [115, 117, 98, 115, 116]) = true := by rw [Lib.toList_data, hs]; decide
  have q1 : (s.toList == [112, 97, 116, 115, 117, 98, 115, 116]) = false := by rw [Lib.toList_data, hs]; decide
  have q2 : (s.toList == [102, 105, 110, 100, 115, 116, 114, 105, 110, 103]) = false := by rw [Lib.toList_data, hs]; decide
  have q3 : (s.toList == [115, 111, 114, 116]) = false := by rw [Lib.toList_data, hs]; decide
  have q4 : (s.toList == [119, 111, 114, 100]) = false := by rw [Lib.toList_data, hs]; decide
  have q5 : (s.toList == [119, 111, 114, 100, 108, 105, 115, 116]) = false := by rw [Lib.toList_data, hs]; decide
  have q6 : (s.toList == [119, 111, 114, 100, 115]) = false := by rw [Lib.toList_data, hs]; decide
  have q7 : (s.toList == [102, 105, 114, 115, 116, 119, 111, 114, 100]) = false := by rw [Lib.toList_data, hs]; decide
  have q8 : (s.toList == [108, 97, 115, 116, 119, 111, 114, 100]) = false := by rw [Lib.toList_data, hs]; decide
  have q9 : (s.toList == [106, 111, 105, 110]) = false := by rw [Lib.toList_data, hs]; decide
  clear hc hs
  have hb0 : Below w.heap.size w w := Below.refl _ _
  obtain ⟨x0, x1, x2⟩ := HC.out w hb0
  clear hb0
  go_enter Tryz.func104, Tryz.ntmps104
  go_wp2_with fail
  refine (HW.out w).mono ?_
  rintro e w1 ⟨o1, c1, rfl, hc1, hb1⟩
  clear x0 x1 x2
  obtain ⟨x0, x1, x2⟩ := HC.out w1 hb1
  have HB := Lib.hid hb1
  have HS : Hid (∀ W, Below w1.heap.size w1 W → Calls Tryz.prog 145 #[.string (txt a), .string (txt b), .string (txt t)] W fun e W' => e = .returned (.string (txt r)) ∧ W'.cell? ⟨g, f, none⟩ = some (.string (txt a)) ∧ W'.cell? ⟨g, f + 1, none⟩ = some (.string (txt b)) ∧ W'.cell? ⟨g, f + 2, none⟩ = some (.string (txt t)) ∧ Below w1.heap.size w1 W') := fun W h => by
    refine (HSub.out W).mono ?_
    rintro e W' ⟨rfl, rfl⟩
    have := HC.out W (HB.out.trans (h.mono HB.out.size))
    exact ⟨rfl, this.1, this.2.1, this.2.2, h⟩
  clear HSub hc1 hb1 HW
  have HKD : Hid (∀ W : World, Below w1.heap.size w1 W → Below w1.heap.size w1 W.drew) := fun W h => h.trans ⟨rfl, rfl, rfl, Nat.le_refl _, fun _ _ => rfl⟩
  have HKB : Hid (∀ W : World, Below w1.heap.size w1 W → W.cell? ⟨g, f, none⟩ = some (.string (txt a)) ∧ W.cell? ⟨g, f + 1, none⟩ = some (.string (txt b)) ∧ W.cell? ⟨g, f + 2, none⟩ = some (.string (txt t)) ∧ Below w1.heap.size w1 W) := fun W h => by
    have := HC.out W (HB.out.trans (h.mono HB.out.size))
    exact ⟨this.1, this.2.1, this.2.2, h⟩
  have hbr : Below w1.heap.size w1 w1 := Below.refl _ _
  go_wp2_with fail
  go_region_held3 (fun W => W.cell? ⟨g, f, none⟩ = some (.string (txt a)) ∧ W.cell? ⟨g, f + 1, none⟩ = some (.string (txt b)) ∧ W.cell? ⟨g, f + 2, none⟩ = some (.string (txt t)) ∧ Below w1.heap.size w1 W)
    (first | exact ⟨by assumption, by assumption, by assumption, by assumption⟩ | exact HKB.out _ (HKD.out _ (by assumption)) | (go_split_ands; first | exact ⟨by assumption, by assumption, by assumption, by assumption⟩ | exact HKB.out _ (HKD.out _ (by assumption))))
    (first
      | (go_at_call 145; (with_reducible refine (HS.out _ (by first | assumption | (go_split_ands; assumption))).mono ?_); rintro e w5 ⟨rfl, z0, z1, z2, hb5⟩))
  all_goals
    go_wp2_with fail
    go_ret2
    exact ans_ok HE.out (HB.out.trans (hb5.mono HB.out.size))

set_option maxRecDepth 100000 in
set_option maxHeartbeats 4000000 in
theorem ans_patsubst (s : ByteArray) (hs : s.data.toList = nPatsubst) (o : Option Addr) (c : Nat) (a b t : BT) (ha : a.length ≤ 4000) (hb : b.length ≤ 4000) (ht : t.length ≤ 4000) (w : World) (hc : CellsW w o c [a, b, t]) :
    Calls Tryz.prog 104 #[.string s, .slice o 3 c] w (AnsPost (ansT nPatsubst [a, b, t]) w) := by
  obtain ⟨g, f, rfl, hcc, HC⟩ := args3 hc
  have HW := Lib.hid (fun W => rwords_toldT t (by omega) W)
  have HEach := Lib.hid (fun W => ref_each s a b t ha hb ht W)
  have hsh := short_eachO nPatsubst ht ha hb
  have HE0 : Hid (ansT nPatsubst [a, b, t] = some (joinT (listT nPatsubst a b t))) := rfl
  have HE : Hid (ansT nPatsubst [a, b, t] = some (joinT (eachT nPatsubst a b (wordsT t)))) := by rw [each_list _ _ _ _ (.inr (.inl rfl))]; exact HE0.out
  rw [hs] at HEach
  unfold RowPost at HEach
  generalize eachT nPatsubst a b (wordsT t) = l at HEach hsh HE
  obtain ⟨r, hr⟩ : ∃ r, r = joinT l := ⟨_, rfl⟩
  rw [← hr] at HE
  have HJ := hsh.told hr
  clear hsh hr HE0
  generalize wordsT t = ws at HW
  generalize hln : ws.length = ln at HW
  clear hln
  have q0 : (s.toList == [115, 117, 98, 115, 116]) = false := by rw [Lib.toList_data, hs]; decide
  have q1 : (s.toList == [112, 97, 116, 115, 117, 98, 115, 116]) = true := by rw [Lib.toList_data, hs]; decide
  have q2 : (s.toList == [102, 105, 110, 100, 115, 116, 114, 105, 110, 103]) = false := by rw [Lib.toList_data, hs]; decide
  have q3 : (s.toList == [115, 111, 114, 116]) = false := by rw [Lib.toList_data, hs]; decide
  have q4 : (s.toList == [119, 111, 114, 100]) = false := by rw [Lib.toList_data, hs]; decide
  have q5 : (s.toList == [119, 111, 114, 100, 108, 105, 115, 116]) = false := by rw [Lib.toList_data, hs]; decide
  have q6 : (s.toList == [119, 111, 114, 100, 115]) = false := by rw [Lib.toList_data, hs]; decide
  have q7 : (s.toList == [102, 105, 114, 115, 116, 119, 111, 114, 100]) = false := by rw [Lib.toList_data, hs]; decide
  have q8 : (s.toList == [108, 97, 115, 116, 119, 111, 114, 100]) = false := by rw [Lib.toList_data, hs]; decide
  have q9 : (s.toList == [106, 111, 105, 110]) = false := by rw [Lib.toList_data, hs]; decide
  clear hc hs
  have hb0 : Below w.heap.size w w := Below.refl _ _
  obtain ⟨x0, x1, x2⟩ := HC.out w hb0
  clear hb0
  go_enter Tryz.func104, Tryz.ntmps104
  go_wp2_with fail
  refine (HW.out w).mono ?_
  rintro e w1 ⟨o1, c1, rfl, hc1, hb1⟩
  clear x0 x1 x2
  obtain ⟨x0, x1, x2⟩ := HC.out w1 hb1
  have HB := Lib.hid hb1
  have HS : Hid (∀ W, Below w1.heap.size w1 W → Calls Tryz.prog 146 #[.string s, .string (txt a), .string (txt b), .string (txt t)] W fun e W' => ∃ o c, e = .returned (.slice o l.length c) ∧ CellsW W' o c l ∧ W'.cell? ⟨g, f, none⟩ = some (.string (txt a)) ∧ W'.cell? ⟨g, f + 1, none⟩ = some (.string (txt b)) ∧ W'.cell? ⟨g, f + 2, none⟩ = some (.string (txt t)) ∧ Below w1.heap.size w1 W') := fun W h => by
    refine (HEach.out W).mono ?_
    rintro e W' ⟨o4, c4, rfl, hc4, hb4⟩
    have h9 := h.trans (hb4.mono h.size)
    have := HC.out W' (HB.out.trans (h9.mono HB.out.size))
    exact ⟨o4, c4, rfl, hc4, this.1, this.2.1, this.2.2, h9⟩
  have HJ9 : Hid (∀ o c W, CellsW W o c l → Below w1.heap.size w1 W → Calls Tryz.prog 80 #[.slice o l.length c] W fun e W' => e = .returned (.string (txt r)) ∧ W'.cell? ⟨g, f, none⟩ = some (.string (txt a)) ∧ W'.cell? ⟨g, f + 1, none⟩ = some (.string (txt b)) ∧ W'.cell? ⟨g, f + 2, none⟩ = some (.string (txt t)) ∧ Below w1.heap.size w1 W') := fun o c W hc h => by
    refine (HJ.out o c W hc).mono ?_
    rintro e W' ⟨rfl, rfl⟩
    have := HC.out W (HB.out.trans (h.mono HB.out.size))
    exact ⟨rfl, this.1, this.2.1, this.2.2, h⟩
  clear HEach HJ hc1 hb1 HW
  generalize l.length = ll at HS HJ9
  have HKD : Hid (∀ W : World, Below w1.heap.size w1 W → Below w1.heap.size w1 W.drew) := fun W h => h.trans ⟨rfl, rfl, rfl, Nat.le_refl _, fun _ _ => rfl⟩
  have HKB : Hid (∀ W : World, Below w1.heap.size w1 W → W.cell? ⟨g, f, none⟩ = some (.string (txt a)) ∧ W.cell? ⟨g, f + 1, none⟩ = some (.string (txt b)) ∧ W.cell? ⟨g, f + 2, none⟩ = some (.string (txt t)) ∧ Below w1.heap.size w1 W) := fun W h => by
    have := HC.out W (HB.out.trans (h.mono HB.out.size))
    exact ⟨this.1, this.2.1, this.2.2, h⟩
  have hbr : Below w1.heap.size w1 w1 := Below.refl _ _
  go_wp2_with fail
  go_region_held3 (fun W => W.cell? ⟨g, f, none⟩ = some (.string (txt a)) ∧ W.cell? ⟨g, f + 1, none⟩ = some (.string (txt b)) ∧ W.cell? ⟨g, f + 2, none⟩ = some (.string (txt t)) ∧ Below w1.heap.size w1 W)
    (first | exact ⟨by assumption, by assumption, by assumption, by assumption⟩ | exact HKB.out _ (HKD.out _ (by assumption)) | (go_split_ands; first | exact ⟨by assumption, by assumption, by assumption, by assumption⟩ | exact HKB.out _ (HKD.out _ (by assumption))))
    (first
      | (go_at_call 146; (with_reducible refine (HS.out _ (by first | assumption | (go_split_ands; assumption))).mono ?_); rintro e w4 ⟨o4, c4, rfl, hc4, z0, z1, z2, hb4⟩)
      | (go_at_call 80; (with_reducible refine (HJ9.out o4 c4 _ (by first | assumption | exact hc4) (by first | assumption | (go_split_ands; assumption))).mono ?_); rintro e w5 ⟨rfl, v0, v1, v2, hb5⟩))
  all_goals
    go_wp2_with fail
    go_ret2
    exact ans_ok HE.out (HB.out.trans (hb5.mono HB.out.size))

set_option maxRecDepth 100000 in
set_option maxHeartbeats 4000000 in
theorem ans_findstring (s : ByteArray) (hs : s.data.toList = nFindstring) (o : Option Addr) (c : Nat) (a t : BT) (ha : a.length ≤ 4000) (ht : t.length ≤ 4000) (w : World) (hc : CellsW w o c [a, t]) :
    Calls Tryz.prog 104 #[.string s, .slice o 2 c] w (AnsPost (ansT nFindstring [a, t]) w) := by
  obtain ⟨g, f, rfl, hcc, HC⟩ := args2 hc
  have HW := Lib.hid (fun W => rwords_toldT t (by omega) W)
  have HF := Lib.hid (fun W => ref_found a t ha ht W)
  have HE : Hid (ansT nFindstring [a, t] = some (if foundB a t = true then a else [])) := rfl
  generalize foundB a t = fb at HF HE
  generalize wordsT t = ws at HW
  generalize hln : ws.length = ln at HW
  clear hln
  have q0 : (s.toList == [115, 117, 98, 115, 116]) = false := by rw [Lib.toList_data, hs]; decide
  have q1 : (s.toList == [112, 97, 116, 115, 117, 98, 115, 116]) = false := by rw [Lib.toList_data, hs]; decide
  have q2 : (s.toList == [102, 105, 110, 100, 115, 116, 114, 105, 110, 103]) = true := by rw [Lib.toList_data, hs]; decide
  have q3 : (s.toList == [115, 111, 114, 116]) = false := by rw [Lib.toList_data, hs]; decide
  have q4 : (s.toList == [119, 111, 114, 100]) = false := by rw [Lib.toList_data, hs]; decide
  have q5 : (s.toList == [119, 111, 114, 100, 108, 105, 115, 116]) = false := by rw [Lib.toList_data, hs]; decide
  have q6 : (s.toList == [119, 111, 114, 100, 115]) = false := by rw [Lib.toList_data, hs]; decide
  have q7 : (s.toList == [102, 105, 114, 115, 116, 119, 111, 114, 100]) = false := by rw [Lib.toList_data, hs]; decide
  have q8 : (s.toList == [108, 97, 115, 116, 119, 111, 114, 100]) = false := by rw [Lib.toList_data, hs]; decide
  have q9 : (s.toList == [106, 111, 105, 110]) = false := by rw [Lib.toList_data, hs]; decide
  clear hc hs
  have hb0 : Below w.heap.size w w := Below.refl _ _
  obtain ⟨x0, x1⟩ := HC.out w hb0
  clear hb0
  go_enter Tryz.func104, Tryz.ntmps104
  go_wp2_with fail
  refine (HW.out w).mono ?_
  rintro e w1 ⟨o1, c1, rfl, hc1, hb1⟩
  clear x0 x1
  obtain ⟨x0, x1⟩ := HC.out w1 hb1
  have HB := Lib.hid hb1
  clear hc1 hb1 HW HC
  go_wp2_with fail
  refine (HF.out _).mono ?_
  rintro e w2 ⟨rfl, rfl⟩
  cases fb with
  | true =>
    go_wp2_with fail
    go_ret2
    exact ans_ok HE.out HB.out
  | false =>
    go_wp2_with fail
    go_ret2
    exact ans_ok HE.out HB.out

set_option maxRecDepth 100000 in
set_option maxHeartbeats 4000000 in
theorem ans_firstword (s : ByteArray) (hs : s.data.toList = nFirstword) (o : Option Addr) (c : Nat) (t : BT) (ht : t.length ≤ 4000) (w : World) (hc : CellsW w o c [t]) :
    Calls Tryz.prog 104 #[.string s, .slice o 1 c] w (AnsPost (ansT nFirstword [t]) w) := by
  obtain ⟨g, f, rfl, hcc, HC⟩ := args1 hc
  have HW := Lib.hid (fun W => rwords_toldT t (by omega) W)
  have HL := Lib.hid (fun W => ref_some 1 1 t (by omega) W)
  unfold RowPost at HL
  have hsh := short_some ht 1 1
  have HE : Hid (ansT nFirstword [t] = some (joinT (someI 1 1 0 (wordsT t)))) := by show _ = _; rw [first_isO]; rfl
  generalize someI 1 1 0 (wordsT t) = l at HL hsh HE
  obtain ⟨r, hr⟩ : ∃ r, r = joinT l := ⟨_, rfl⟩
  rw [← hr] at HE
  have HJ := hsh.told hr
  clear hsh hr
  generalize l.length = ll at HL HJ
  generalize wordsT t = ws at HW
  generalize hln : ws.length = ln at HW
  clear hln
  have q0 : (s.toList == [115, 117, 98, 115, 116]) = false := by rw [Lib.toList_data, hs]; decide
  have q1 : (s.toList == [112, 97, 116, 115, 117, 98, 115, 116]) = false := by rw [Lib.toList_data, hs]; decide
  have q2 : (s.toList == [102, 105, 110, 100, 115, 116, 114, 105, 110, 103]) = false := by rw [Lib.toList_data, hs]; decide
  have q3 : (s.toList == [115, 111, 114, 116]) = false := by rw [Lib.toList_data, hs]; decide
  have q4 : (s.toList == [119, 111, 114, 100]) = false := by rw [Lib.toList_data, hs]; decide
  have q5 : (s.toList == [119, 111, 114, 100, 108, 105, 115, 116]) = false := by rw [Lib.toList_data, hs]; decide
  have q6 : (s.toList == [119, 111, 114, 100, 115]) = false := by rw [Lib.toList_data, hs]; decide
  have q7 : (s.toList == [102, 105, 114, 115, 116, 119, 111, 114, 100]) = true := by rw [Lib.toList_data, hs]; decide
  have q8 : (s.toList == [108, 97, 115, 116, 119, 111, 114, 100]) = false := by rw [Lib.toList_data, hs]; decide
  have q9 : (s.toList == [106, 111, 105, 110]) = false := by rw [Lib.toList_data, hs]; decide
  clear hc hs
  have hb0 : Below w.heap.size w w := Below.refl _ _
  have x0 := HC.out w hb0
  clear hb0
  go_enter Tryz.func104, Tryz.ntmps104
  go_wp2_with fail
  refine (HW.out w).mono ?_
  rintro e w1 ⟨o1, c1, rfl, hc1, hb1⟩
  clear x0
  have x0 := HC.out w1 hb1
  have HB := Lib.hid hb1
  clear hc1 hb1 HW HC
  go_wp2_with fail
  refine (HL.out _).mono ?_
  rintro e w2 ⟨o2, c2, rfl, hc2, hb2⟩
  have HB2 := Lib.hid (HB.out.trans (hb2.mono HB.out.size))
  go_wp2_with fail
  refine (HJ.out o2 c2 _ hc2).mono ?_
  rintro e w3 ⟨rfl, rfl⟩
  clear hc2 hb2
  go_wp2_with fail
  go_ret2
  exact ans_ok HE.out HB2.out

set_option maxRecDepth 100000 in
set_option maxHeartbeats 4000000 in
theorem ans_join (s : ByteArray) (hs : s.data.toList = nJoin) (o : Option Addr) (c : Nat) (a t : BT) (ha : a.length ≤ 4000) (ht : t.length ≤ 4000) (w : World) (hc : CellsW w o c [a, t]) :
    Calls Tryz.prog 104 #[.string s, .slice o 2 c] w (AnsPost (ansT nJoin [a, t]) w) := by
  obtain ⟨g, f, rfl, hcc, HC⟩ := args2 hc
  have HW := Lib.hid (fun W => rwords_toldT t (by omega) W)
  have HL := Lib.hid (fun W => ref_zip a t (by omega) (by omega) W)
  unfold RowPost at HL
  have hsh := short_zip ha ht
  have HE : Hid (ansT nJoin [a, t] = some (joinT (zipT (wordsT a) (wordsT t)))) := rfl
  generalize zipT (wordsT a) (wordsT t) = l at HL hsh HE
  obtain ⟨r, hr⟩ : ∃ r, r = joinT l := ⟨_, rfl⟩
  rw [← hr] at HE
  have HJ := hsh.told hr
  clear hsh hr
  generalize l.length = ll at HL HJ
  generalize wordsT t = ws at HW
  generalize hln : ws.length = ln at HW
  clear hln
  have q0 : (s.toList == [115, 117, 98, 115, 116]) = false := by rw [Lib.toList_data, hs]; decide
  have q1 : (s.toList == [112, 97, 116, 115, 117, 98, 115, 116]) = false := by rw [Lib.toList_data, hs]; decide
  have q2 : (s.toList == [102, 105, 110, 100, 115, 116, 114, 105, 110, 103]) = false := by rw [Lib.toList_data, hs]; decide
  have q3 : (s.toList == [115, 111, 114, 116]) = false := by rw [Lib.toList_data, hs]; decide
  have q4 : (s.toList == [119, 111, 114, 100]) = false := by rw [Lib.toList_data, hs]; decide
  have q5 : (s.toList == [119, 111, 114, 100, 108, 105, 115, 116]) = false := by rw [Lib.toList_data, hs]; decide
  have q6 : (s.toList == [119, 111, 114, 100, 115]) = false := by rw [Lib.toList_data, hs]; decide
  have q7 : (s.toList == [102, 105, 114, 115, 116, 119, 111, 114, 100]) = false := by rw [Lib.toList_data, hs]; decide
  have q8 : (s.toList == [108, 97, 115, 116, 119, 111, 114, 100]) = false := by rw [Lib.toList_data, hs]; decide
  have q9 : (s.toList == [106, 111, 105, 110]) = true := by rw [Lib.toList_data, hs]; decide
  clear hc hs
  have hb0 : Below w.heap.size w w := Below.refl _ _
  obtain ⟨x0, x1⟩ := HC.out w hb0
  clear hb0
  go_enter Tryz.func104, Tryz.ntmps104
  go_wp2_with fail
  refine (HW.out w).mono ?_
  rintro e w1 ⟨o1, c1, rfl, hc1, hb1⟩
  clear x0 x1
  obtain ⟨x0, x1⟩ := HC.out w1 hb1
  have HB := Lib.hid hb1
  clear hc1 hb1 HW HC
  go_wp2_with fail
  refine (HL.out _).mono ?_
  rintro e w2 ⟨o2, c2, rfl, hc2, hb2⟩
  have HB2 := Lib.hid (HB.out.trans (hb2.mono HB.out.size))
  go_wp2_with fail
  refine (HJ.out o2 c2 _ hc2).mono ?_
  rintro e w3 ⟨rfl, rfl⟩
  clear hc2 hb2
  go_wp2_with fail
  go_ret2
  exact ans_ok HE.out HB2.out

set_option maxRecDepth 100000 in
set_option maxHeartbeats 4000000 in
theorem ans_lastword (s : ByteArray) (hs : s.data.toList = nLastword) (o : Option Addr) (c : Nat) (t : BT) (ht : t.length ≤ 4000) (w : World) (hc : CellsW w o c [t]) :
    Calls Tryz.prog 104 #[.string s, .slice o 1 c] w (AnsPost (ansT nLastword [t]) w) := by
  obtain ⟨g, f, rfl, hcc, HC⟩ := args1 hc
  have HW := Lib.hid (fun W => rwords_toldT t (by omega) W)
  have HL := Lib.hid (fun W => ref_some ((wordsT t).length : Int) ((wordsT t).length : Int) t (by omega) W)
  unfold RowPost at HL
  have hsh := short_some ht ((wordsT t).length : Int) ((wordsT t).length : Int)
  have HE : Hid (ansT nLastword [t] = some (joinT (someI ((wordsT t).length : Int) ((wordsT t).length : Int) 0 (wordsT t)))) := by show _ = _; rw [last_is]; rfl
  generalize someI ((wordsT t).length : Int) ((wordsT t).length : Int) 0 (wordsT t) = l at HL hsh HE
  obtain ⟨r, hr⟩ : ∃ r, r = joinT l := ⟨_, rfl⟩
  rw [← hr] at HE
  have HJ := hsh.told hr
  clear hsh hr
  generalize l.length = ll at HL HJ
  generalize wordsT t = ws at HW HL
  generalize hln : ws.length = ln at HW HL
  clear hln
  have q0 : (s.toList == [115, 117, 98, 115, 116]) = false := by rw [Lib.toList_data, hs]; decide
  have q1 : (s.toList == [112, 97, 116, 115, 117, 98, 115, 116]) = false := by rw [Lib.toList_data, hs]; decide
  have q2 : (s.toList == [102, 105, 110, 100, 115, 116, 114, 105, 110, 103]) = false := by rw [Lib.toList_data, hs]; decide
  have q3 : (s.toList == [115, 111, 114, 116]) = false := by rw [Lib.toList_data, hs]; decide
  have q4 : (s.toList == [119, 111, 114, 100]) = false := by rw [Lib.toList_data, hs]; decide
  have q5 : (s.toList == [119, 111, 114, 100, 108, 105, 115, 116]) = false := by rw [Lib.toList_data, hs]; decide
  have q6 : (s.toList == [119, 111, 114, 100, 115]) = false := by rw [Lib.toList_data, hs]; decide
  have q7 : (s.toList == [102, 105, 114, 115, 116, 119, 111, 114, 100]) = false := by rw [Lib.toList_data, hs]; decide
  have q8 : (s.toList == [108, 97, 115, 116, 119, 111, 114, 100]) = true := by rw [Lib.toList_data, hs]; decide
  have q9 : (s.toList == [106, 111, 105, 110]) = false := by rw [Lib.toList_data, hs]; decide
  clear hc hs
  have hb0 : Below w.heap.size w w := Below.refl _ _
  have x0 := HC.out w hb0
  clear hb0
  go_enter Tryz.func104, Tryz.ntmps104
  go_wp2_with fail
  refine (HW.out w).mono ?_
  rintro e w1 ⟨o1, c1, rfl, hc1, hb1⟩
  clear x0
  have x0 := HC.out w1 hb1
  have HB := Lib.hid hb1
  clear hc1 hb1 HW HC
  go_wp2_with fail
  refine (HL.out _).mono ?_
  rintro e w2 ⟨o2, c2, rfl, hc2, hb2⟩
  have HB2 := Lib.hid (HB.out.trans (hb2.mono HB.out.size))
  go_wp2_with fail
  refine (HJ.out o2 c2 _ hc2).mono ?_
  rintro e w3 ⟨rfl, rfl⟩
  clear hc2 hb2
  go_wp2_with fail
  go_ret2
  exact ans_ok HE.out HB2.out

set_option maxRecDepth 100000 in
set_option maxHeartbeats 4000000 in
theorem ans_sort (s : ByteArray) (hs : s.data.toList = nSort) (o : Option Addr) (c : Nat) (t : BT) (ht : t.length ≤ 4000) (w : World) (hc : CellsW w o c [t]) :
    Calls Tryz.prog 104 #[.string s, .slice o 1 c] w (AnsPost (ansT nSort [t]) w) := by
  obtain ⟨g, f, rfl, hcc, HC⟩ := args1 hc
  have HW := Lib.hid (fun W => rwords_toldT t (by omega) W)
  have HL : Hid (∀ o c W, CellsW W o c (wordsT t) → Calls Tryz.prog 148 #[.slice o (wordsT t).length c] W fun e W' => ∃ o c, e = .returned (.slice o (sortT (wordsT t)).length c) ∧ CellsW W' o c (sortT (wordsT t)) ∧ Below W.heap.size W W') := fun o c W h => sorted10_any o c _ (wordsT t) rfl (by have := words_few t; omega) W h
  have hsh := short_sort ht
  have HE : Hid (ansT nSort [t] = some (joinT (sortT (wordsT t)))) := rfl
  generalize sortT (wordsT t) = l at HL hsh HE
  obtain ⟨r, hr⟩ : ∃ r, r = joinT l := ⟨_, rfl⟩
  rw [← hr] at HE
  have HJ := hsh.told hr
  clear hsh hr
  generalize l.length = ll at HL HJ
  generalize wordsT t = ws at HW HL
  generalize hln : ws.length = ln at HW HL
  clear hln
  have q0 : (s.toList == [115, 117, 98, 115, 116]) = false := by rw [Lib.toList_data, hs]; decide
  have q1 : (s.toList == [112, 97, 116, 115, 117, 98, 115, 116]) = false := by rw [Lib.toList_data, hs]; decide
  have q2 : (s.toList == [102, 105, 110, 100, 115, 116, 114, 105, 110, 103]) = false := by rw [Lib.toList_data, hs]; decide
  have q3 : (s.toList == [115, 111, 114, 116]) = true := by rw [Lib.toList_data, hs]; decide
  have q4 : (s.toList == [119, 111, 114, 100]) = false := by rw [Lib.toList_data, hs]; decide
  have q5 : (s.toList == [119, 111, 114, 100, 108, 105, 115, 116]) = false := by rw [Lib.toList_data, hs]; decide
  have q6 : (s.toList == [119, 111, 114, 100, 115]) = false := by rw [Lib.toList_data, hs]; decide
  have q7 : (s.toList == [102, 105, 114, 115, 116, 119, 111, 114, 100]) = false := by rw [Lib.toList_data, hs]; decide
  have q8 : (s.toList == [108, 97, 115, 116, 119, 111, 114, 100]) = false := by rw [Lib.toList_data, hs]; decide
  have q9 : (s.toList == [106, 111, 105, 110]) = false := by rw [Lib.toList_data, hs]; decide
  clear hc hs
  have hb0 : Below w.heap.size w w := Below.refl _ _
  have x0 := HC.out w hb0
  clear hb0
  go_enter Tryz.func104, Tryz.ntmps104
  go_wp2_with fail
  refine (HW.out w).mono ?_
  rintro e w1 ⟨o1, c1, rfl, hc1, hb1⟩
  clear x0
  have x0 := HC.out w1 hb1
  have HB := Lib.hid hb1
  clear hb1 HW HC
  go_wp2_with fail
  refine (HL.out o1 c1 _ hc1).mono ?_
  rintro e w2 ⟨o2, c2, rfl, hc2, hb2⟩
  have HB2 := Lib.hid (HB.out.trans (hb2.mono HB.out.size))
  go_wp2_with fail
  refine (HJ.out o2 c2 _ hc2).mono ?_
  rintro e w3 ⟨rfl, rfl⟩
  clear hc2 hb2 hc1
  go_wp2_with fail
  go_ret2
  exact ans_ok HE.out HB2.out

set_option maxRecDepth 100000 in
set_option maxHeartbeats 4000000 in
theorem ans_words (s : ByteArray) (hs : s.data.toList = nWords) (o : Option Addr) (c : Nat) (t : BT) (ht : t.length ≤ 4000) (w : World) (hc : CellsW w o c [t]) :
    Calls Tryz.prog 104 #[.string s, .slice o 1 c] w (AnsPost (ansT nWords [t]) w) := by
  obtain ⟨g, f, rfl, hcc, HC⟩ := args1 hc
  have HW := Lib.hid (fun W => rwords_toldT t (by omega) W)
  have HD := Lib.hid (fun W => decimal10_any (wordsT t).length (by have := words_few t; omega) W)
  have HE : Hid (ansT nWords [t] = some (decOf (wordsT t).length)) := rfl
  generalize decOf (wordsT t).length = r at HD HE
  generalize wordsT t = ws at HW HD
  generalize hln : ws.length = ln at HW HD
  clear hln
  have q0 : (s.toList == [115, 117, 98, 115, 116]) = false := by rw [Lib.toList_data, hs]; decide
  have q1 : (s.toList == [112, 97, 116, 115, 117, 98, 115, 116]) = false := by rw [Lib.toList_data, hs]; decide
  have q2 : (s.toList == [102, 105, 110, 100, 115, 116, 114, 105, 110, 103]) = false := by rw [Lib.toList_data, hs]; decide
  have q3 : (s.toList == [115, 111, 114, 116]) = false := by rw [Lib.toList_data, hs]; decide
  have q4 : (s.toList == [119, 111, 114, 100]) = false := by rw [Lib.toList_data, hs]; decide
  have q5 : (s.toList == [119, 111, 114, 100, 108, 105, 115, 116]) = false := by rw [Lib.toList_data, hs]; decide
  have q6 : (s.toList == [119, 111, 114, 100, 115]) = true := by rw [Lib.toList_data, hs]; decide
  have q7 : (s.toList == [102, 105, 114, 115, 116, 119, 111, 114, 100]) = false := by rw [Lib.toList_data, hs]; decide
  have q8 : (s.toList == [108, 97, 115, 116, 119, 111, 114, 100]) = false := by rw [Lib.toList_data, hs]; decide
  have q9 : (s.toList == [106, 111, 105, 110]) = false := by rw [Lib.toList_data, hs]; decide
  clear hc hs
  have hb0 : Below w.heap.size w w := Below.refl _ _
  have x0 := HC.out w hb0
  clear hb0
  go_enter Tryz.func104, Tryz.ntmps104
  go_wp2_with fail
  refine (HW.out w).mono ?_
  rintro e w1 ⟨o1, c1, rfl, hc1, hb1⟩
  clear x0
  have x0 := HC.out w1 hb1
  have HB := Lib.hid hb1
  clear hc1 hb1 HW HC
  go_wp2_with fail
  refine (HD.out _).mono ?_
  rintro e w2 ⟨rfl, rfl⟩
  go_wp2_with fail
  go_ret2
  exact ans_ok HE.out HB.out

set_option maxRecDepth 100000 in
set_option maxHeartbeats 4000000 in
theorem ans_word (s : ByteArray) (hs : s.data.toList = nWord) (o : Option Addr) (c : Nat) (a t : BT) (ha : a.length ≤ 4000) (ht : t.length ≤ 4000) (w : World) (hc : CellsW w o c [a, t]) :
    Calls Tryz.prog 104 #[.string s, .slice o 2 c] w (AnsPost (ansT nWord [a, t]) w) := by
  obtain ⟨g, f, rfl, hcc, HC⟩ := args2 hc
  have HW := Lib.hid (fun W => rwords_toldT t (by omega) W)
  have HNum := Lib.hid (fun W => ref_number a 1 (by omega) W)
  have HL := Lib.hid (fun W => ref_some (numV (trimOf a)) (numV (trimOf a)) t (by omega) W)
  unfold RowPost at HL
  have hsh := short_some ht (numV (trimOf a)) (numV (trimOf a))
  have HE : Hid (∀ W, Below w.heap.size w W → AnsPost (ansT nWord [a, t]) w (.returned (.tuple #[.string (txt (joinT (someI (numV (trimOf a)) (numV (trimOf a)) 0 (wordsT t)))), .bool (okN a 1)])) W) := fun W hb => by
    have e : ansT nWord [a, t] = wordT a a t := rfl
    rw [e]
    cases hk : okN a 1 with
    | true => exact ans_ok (word_yes hk (okN_less hk)) hb
    | false => exact ans_no (word_no (.inl hk)) hb
  generalize someI (numV (trimOf a)) (numV (trimOf a)) 0 (wordsT t) = l at HL hsh HE
  obtain ⟨r, hr⟩ : ∃ r, r = joinT l := ⟨_, rfl⟩
  rw [← hr] at HE
  have HJ := hsh.told hr
  clear hsh hr
  generalize l.length = ll at HL HJ
  generalize okN a 1 = ok at HNum HE
  generalize numV (trimOf a) = v at HNum HL
  generalize wordsT t = ws at HW
  generalize hln : ws.length = ln at HW
  clear hln
  have q0 : (s.toList == [115, 117, 98, 115, 116]) = false := by rw [Lib.toList_data, hs]; decide
  have q1 : (s.toList == [112, 97, 116, 115, 117, 98, 115, 116]) = false := by rw [Lib.toList_data, hs]; decide
  have q2 : (s.toList == [102, 105, 110, 100, 115, 116, 114, 105, 110, 103]) = false := by rw [Lib.toList_data, hs]; decide
  have q3 : (s.toList == [115, 111, 114, 116]) = false := by rw [Lib.toList_data, hs]; decide
  have q4 : (s.toList == [119, 111, 114, 100]) = true := by rw [Lib.toList_data, hs]; decide
  have q5 : (s.toList == [119, 111, 114, 100, 108, 105, 115, 116]) = false := by rw [Lib.toList_data, hs]; decide
  have q6 : (s.toList == [119, 111, 114, 100, 115]) = false := by rw [Lib.toList_data, hs]; decide
  have q7 : (s.toList == [102, 105, 114, 115, 116, 119, 111, 114, 100]) = false := by rw [Lib.toList_data, hs]; decide
  have q8 : (s.toList == [108, 97, 115, 116, 119, 111, 114, 100]) = false := by rw [Lib.toList_data, hs]; decide
  have q9 : (s.toList == [106, 111, 105, 110]) = false := by rw [Lib.toList_data, hs]; decide
  clear hc hs
  have hb0 : Below w.heap.size w w := Below.refl _ _
  obtain ⟨x0, x1⟩ := HC.out w hb0
  clear hb0
  go_enter Tryz.func104, Tryz.ntmps104
  go_wp2_with fail
  refine (HW.out w).mono ?_
  rintro e w1 ⟨o1, c1, rfl, hc1, hb1⟩
  clear x0 x1
  obtain ⟨x0, x1⟩ := HC.out w1 hb1
  have HB := Lib.hid hb1
  clear hc1 hb1 HW HC
  go_wp2_with fail
  refine (HNum.out _).mono ?_
  rintro e w9 ⟨rfl, rfl⟩
  go_wp2_with fail
  refine (HL.out _).mono ?_
  rintro e w2 ⟨o2, c2, rfl, hc2, hb2⟩
  have HB2 := Lib.hid (HB.out.trans (hb2.mono HB.out.size))
  go_wp2_with fail
  refine (HJ.out o2 c2 _ hc2).mono ?_
  rintro e w3 ⟨rfl, rfl⟩
  clear hc2 hb2
  go_wp2_with fail
  go_ret2
  exact HE.out _ HB2.out

set_option maxRecDepth 100000 in
set_option maxHeartbeats 4000000 in
theorem ans_wordlist (s : ByteArray) (hs : s.data.toList = nWordlist) (o : Option Addr) (c : Nat) (a b t : BT) (ha : a.length ≤ 4000) (hb : b.length ≤ 4000) (ht : t.length ≤ 4000) (w : World) (hc : CellsW w o c [a, b, t]) :
    Calls Tryz.prog 104 #[.string s, .slice o 3 c] w (AnsPost (ansT nWordlist [a, b, t]) w) := by
  obtain ⟨g, f, rfl, hcc, HC⟩ := args3 hc
  have HW := Lib.hid (fun W => rwords_toldT t (by omega) W)
  have HNum := Lib.hid (fun W => ref_number a 1 (by omega) W)
  have HNum2 := Lib.hid (fun W => ref_number b 0 (by omega) W)
  have HL := Lib.hid (fun W => ref_some (numV (trimOf a)) (numV (trimOf b)) t (by omega) W)
  unfold RowPost at HL
  have hsh := short_some ht (numV (trimOf a)) (numV (trimOf b))
  have HE : Hid (∀ W, Below w.heap.size w W → AnsPost (ansT nWordlist [a, b, t]) w (.returned (.tuple #[.string (txt (joinT (someI (numV (trimOf a)) (numV (trimOf b)) 0 (wordsT t)))), .bool (okN a 1 && okN b 0)])) W) := fun W hb => by
    have e : ansT nWordlist [a, b, t] = wordT a b t := rfl
    rw [e]
    cases hk : okN a 1 with
    | false => exact ans_no (word_no (.inl hk)) hb
    | true =>
      cases hk2 : okN b 0 with
      | true => exact ans_ok (word_yes hk hk2) hb
      | false => exact ans_no (word_no (.inr hk2)) hb
  generalize someI (numV (trimOf a)) (numV (trimOf b)) 0 (wordsT t) = l at HL hsh HE
  obtain ⟨r, hr⟩ : ∃ r, r = joinT l := ⟨_, rfl⟩
  rw [← hr] at HE
  have HJ := hsh.told hr
  clear hsh hr
  generalize l.length = ll at HL HJ
  generalize okN a 1 = ok at HNum HE
  generalize okN b 0 = ok2 at HNum2 HE
  generalize numV (trimOf a) = v at HNum HL
  generalize numV (trimOf b) = v2 at HNum2 HL
  generalize wordsT t = ws at HW
  generalize hln : ws.length = ln at HW
  clear hln
  have q0 : (s.toList == [115, 117, 98, 115, 116]) = false := by rw [Lib.toList_data, hs]; decide
  have q1 : (s.toList == [112, 97, 116, 115, 117, 98, 115, 116]) = false := by rw [Lib.toList_data, hs]; decide
  have q2 : (s.toList == [102, 105, 110, 100, 115, 116, 114, 105, 110, 103]) = false := by rw [Lib.toList_data, hs]; decide
  have q3 : (s.toList == [115, 111, 114, 116]) = false := by rw [Lib.toList_data, hs]; decide
  have q4 : (s.toList == [119, 111, 114, 100]) = false := by rw [Lib.toList_data, hs]; decide
  have q5 : (s.toList == [119, 111, 114, 100, 108, 105, 115, 116]) = true := by rw [Lib.toList_data, hs]; decide
  have q6 : (s.toList == [119, 111, 114, 100, 115]) = false := by rw [Lib.toList_data, hs]; decide
  have q7 : (s.toList == [102, 105, 114, 115, 116, 119, 111, 114, 100]) = false := by rw [Lib.toList_data, hs]; decide
  have q8 : (s.toList == [108, 97, 115, 116, 119, 111, 114, 100]) = false := by rw [Lib.toList_data, hs]; decide
  have q9 : (s.toList == [106, 111, 105, 110]) = false := by rw [Lib.toList_data, hs]; decide
  clear hc hs
  have hb0 : Below w.heap.size w w := Below.refl _ _
  obtain ⟨x0, x1, x2⟩ := HC.out w hb0
  clear hb0
  go_enter Tryz.func104, Tryz.ntmps104
  go_wp2_with fail
  refine (HW.out w).mono ?_
  rintro e w1 ⟨o1, c1, rfl, hc1, hb1⟩
  clear x0 x1 x2
  obtain ⟨x0, x1, x2⟩ := HC.out w1 hb1
  have HB := Lib.hid hb1
  clear hc1 hb1 HW HC
  go_wp2_with fail
  refine (HNum.out _).mono ?_
  rintro e w9 ⟨rfl, rfl⟩
  go_wp2_with fail
  refine (HNum2.out _).mono ?_
  rintro e w9 ⟨rfl, rfl⟩
  go_wp2_with fail
  refine (HL.out _).mono ?_
  rintro e w2 ⟨o2, c2, rfl, hc2, hb2⟩
  have HB2 := Lib.hid (HB.out.trans (hb2.mono HB.out.size))
  go_wp2_with fail
  refine (HJ.out o2 c2 _ hc2).mono ?_
  rintro e w3 ⟨rfl, rfl⟩
  clear hc2 hb2
  cases ok with
  | true =>
    go_wp2_with fail
    go_ret2
    exact HE.out _ HB2.out
  | false =>
    go_wp2_with fail
    go_ret2
    exact HE.out _ HB2.out

set_option maxRecDepth 100000 in
set_option maxHeartbeats 4000000 in
theorem ans_each1 (s : ByteArray) (hm : s.data.toList = nStrip ∨ s.data.toList = nFilter ∨ s.data.toList = nFilterOut ∨ s.data.toList = nAddsuffix ∨ s.data.toList = nAddprefix ∨ s.data.toList = nDir ∨ s.data.toList = nNotdir ∨ s.data.toList = nSuffix ∨ s.data.toList = nBasename) (o : Option Addr) (c : Nat) (t : BT) (ht : t.length ≤ 4000) (w : World) (hc : CellsW w o c [t]) :
    Calls Tryz.prog 104 #[.string s, .slice o 1 c] w (AnsPost (ansT s.data.toList [t]) w) := by
  obtain ⟨g, f, rfl, hcc, HC⟩ := args1 hc
  have HW := Lib.hid (fun W => rwords_toldT t (by omega) W)
  have HL := Lib.hid (fun W => ref_each s t [] t ht (by simp) ht W)
  unfold RowPost at HL
  have hsh := short_eachO (b := []) s.data.toList ht ht (by simp)
  have HE : Hid (ansT s.data.toList [t] = some (joinT (eachT s.data.toList t [] (wordsT t)))) := by
    show _ = _
    rw [each_list _ _ _ _ (by rcases hm with h | h | h | h | h | h | h | h | h <;> simp [h])]
    rcases hm with h | h | h | h | h | h | h | h | h <;> (rw [h]; rfl)
  generalize eachT s.data.toList t [] (wordsT t) = l at HL hsh HE
  obtain ⟨r, hr⟩ : ∃ r, r = joinT l := ⟨_, rfl⟩
  rw [← hr] at HE
  have HJ := hsh.told hr
  clear hsh hr
  generalize l.length = ll at HL HJ
  generalize wordsT t = ws at HW
  generalize hln : ws.length = ln at HW
  clear hln
  have q0 : (s.toList == [115, 117, 98, 115, 116]) = false := by rw [Lib.toList_data]; exact beq_eq_false_iff_ne.2 (by rcases hm with h | h | h | h | h | h | h | h | h <;> (rw [h]; decide))
  have q1 : (s.toList == [112, 97, 116, 115, 117, 98, 115, 116]) = false := by rw [Lib.toList_data]; exact beq_eq_false_iff_ne.2 (by rcases hm with h | h | h | h | h | h | h | h | h <;> (rw [h]; decide))
  have q2 : (s.toList == [102, 105, 110, 100, 115, 116, 114, 105, 110, 103]) = false := by rw [Lib.toList_data]; exact beq_eq_false_iff_ne.2 (by rcases hm with h | h | h | h | h | h | h | h | h <;> (rw [h]; decide))
  have q3 : (s.toList == [115, 111, 114, 116]) = false := by rw [Lib.toList_data]; exact beq_eq_false_iff_ne.2 (by rcases hm with h | h | h | h | h | h | h | h | h <;> (rw [h]; decide))
  have q4 : (s.toList == [119, 111, 114, 100]) = false := by rw [Lib.toList_data]; exact beq_eq_false_iff_ne.2 (by rcases hm with h | h | h | h | h | h | h | h | h <;> (rw [h]; decide))
  have q5 : (s.toList == [119, 111, 114, 100, 108, 105, 115, 116]) = false := by rw [Lib.toList_data]; exact beq_eq_false_iff_ne.2 (by rcases hm with h | h | h | h | h | h | h | h | h <;> (rw [h]; decide))
  have q6 : (s.toList == [119, 111, 114, 100, 115]) = false := by rw [Lib.toList_data]; exact beq_eq_false_iff_ne.2 (by rcases hm with h | h | h | h | h | h | h | h | h <;> (rw [h]; decide))
  have q7 : (s.toList == [102, 105, 114, 115, 116, 119, 111, 114, 100]) = false := by rw [Lib.toList_data]; exact beq_eq_false_iff_ne.2 (by rcases hm with h | h | h | h | h | h | h | h | h <;> (rw [h]; decide))
  have q8 : (s.toList == [108, 97, 115, 116, 119, 111, 114, 100]) = false := by rw [Lib.toList_data]; exact beq_eq_false_iff_ne.2 (by rcases hm with h | h | h | h | h | h | h | h | h <;> (rw [h]; decide))
  have q9 : (s.toList == [106, 111, 105, 110]) = false := by rw [Lib.toList_data]; exact beq_eq_false_iff_ne.2 (by rcases hm with h | h | h | h | h | h | h | h | h <;> (rw [h]; decide))
  clear hc
  have hb0 : Below w.heap.size w w := Below.refl _ _
  have x0 := HC.out w hb0
  clear hb0
  go_enter Tryz.func104, Tryz.ntmps104
  go_wp2_with fail
  refine (HW.out w).mono ?_
  rintro e w1 ⟨o1, c1, rfl, hc1, hb1⟩
  clear x0
  have x0 := HC.out w1 hb1
  have HB := Lib.hid hb1
  clear hc1 hb1 HW HC
  go_wp2_with fail
  refine (HL.out _).mono ?_
  rintro e w2 ⟨o2, c2, rfl, hc2, hb2⟩
  have HB2 := Lib.hid (HB.out.trans (hb2.mono HB.out.size))
  go_wp2_with fail
  refine (HJ.out o2 c2 _ hc2).mono ?_
  rintro e w3 ⟨rfl, rfl⟩
  clear hc2 hb2
  go_wp2_with fail
  go_ret2
  exact ans_ok HE.out HB2.out

set_option maxRecDepth 100000 in
set_option maxHeartbeats 4000000 in
theorem ans_each2 (s : ByteArray) (hm : s.data.toList = nStrip ∨ s.data.toList = nFilter ∨ s.data.toList = nFilterOut ∨ s.data.toList = nAddsuffix ∨ s.data.toList = nAddprefix ∨ s.data.toList = nDir ∨ s.data.toList = nNotdir ∨ s.data.toList = nSuffix ∨ s.data.toList = nBasename) (o : Option Addr) (c : Nat) (a t : BT) (ha : a.length ≤ 4000) (ht : t.length ≤ 4000) (w : World) (hc : CellsW w o c [a, t]) :
    Calls Tryz.prog 104 #[.string s, .slice o 2 c] w (AnsPost (ansT s.data.toList [a, t]) w) := by
  obtain ⟨g, f, rfl, hcc, HC⟩ := args2 hc
  have HW := Lib.hid (fun W => rwords_toldT t (by omega) W)
  have HL := Lib.hid (fun W => ref_each s a [] t ha (by simp) ht W)
  unfold RowPost at HL
  have hsh := short_eachO (b := []) s.data.toList ht ha (by simp)
  have HE : Hid (ansT s.data.toList [a, t] = some (joinT (eachT s.data.toList a [] (wordsT t)))) := by
    show _ = _
    rw [each_list _ _ _ _ (by rcases hm with h | h | h | h | h | h | h | h | h <;> simp [h])]
    rcases hm with h | h | h | h | h | h | h | h | h <;> (rw [h]; rfl)
  generalize eachT s.data.toList a [] (wordsT t) = l at HL hsh HE
  obtain ⟨r, hr⟩ : ∃ r, r = joinT l := ⟨_, rfl⟩
  rw [← hr] at HE
  have HJ := hsh.told hr
  clear hsh hr
  generalize l.length = ll at HL HJ
  generalize wordsT t = ws at HW
  generalize hln : ws.length = ln at HW
  clear hln
  have q0 : (s.toList == [115, 117, 98, 115, 116]) = false := by rw [Lib.toList_data]; exact beq_eq_false_iff_ne.2 (by rcases hm with h | h | h | h | h | h | h | h | h <;> (rw [h]; decide))
  have q1 : (s.toList == [112, 97, 116, 115, 117, 98, 115, 116]) = false := by rw [Lib.toList_data]; exact beq_eq_false_iff_ne.2 (by rcases hm with h | h | h | h | h | h | h | h | h <;> (rw [h]; decide))
  have q2 : (s.toList == [102, 105, 110, 100, 115, 116, 114, 105, 110, 103]) = false := by rw [Lib.toList_data]; exact beq_eq_false_iff_ne.2 (by rcases hm with h | h | h | h | h | h | h | h | h <;> (rw [h]; decide))
  have q3 : (s.toList == [115, 111, 114, 116]) = false := by rw [Lib.toList_data]; exact beq_eq_false_iff_ne.2 (by rcases hm with h | h | h | h | h | h | h | h | h <;> (rw [h]; decide))
  have q4 : (s.toList == [119, 111, 114, 100]) = false := by rw [Lib.toList_data]; exact beq_eq_false_iff_ne.2 (by rcases hm with h | h | h | h | h | h | h | h | h <;> (rw [h]; decide))
  have q5 : (s.toList == [119, 111, 114, 100, 108, 105, 115, 116]) = false := by rw [Lib.toList_data]; exact beq_eq_false_iff_ne.2 (by rcases hm with h | h | h | h | h | h | h | h | h <;> (rw [h]; decide))
  have q6 : (s.toList == [119, 111, 114, 100, 115]) = false := by rw [Lib.toList_data]; exact beq_eq_false_iff_ne.2 (by rcases hm with h | h | h | h | h | h | h | h | h <;> (rw [h]; decide))
  have q7 : (s.toList == [102, 105, 114, 115, 116, 119, 111, 114, 100]) = false := by rw [Lib.toList_data]; exact beq_eq_false_iff_ne.2 (by rcases hm with h | h | h | h | h | h | h | h | h <;> (rw [h]; decide))
  have q8 : (s.toList == [108, 97, 115, 116, 119, 111, 114, 100]) = false := by rw [Lib.toList_data]; exact beq_eq_false_iff_ne.2 (by rcases hm with h | h | h | h | h | h | h | h | h <;> (rw [h]; decide))
  have q9 : (s.toList == [106, 111, 105, 110]) = false := by rw [Lib.toList_data]; exact beq_eq_false_iff_ne.2 (by rcases hm with h | h | h | h | h | h | h | h | h <;> (rw [h]; decide))
  clear hc
  have hb0 : Below w.heap.size w w := Below.refl _ _
  obtain ⟨x0, x1⟩ := HC.out w hb0
  clear hb0
  go_enter Tryz.func104, Tryz.ntmps104
  go_wp2_with fail
  refine (HW.out w).mono ?_
  rintro e w1 ⟨o1, c1, rfl, hc1, hb1⟩
  clear x0 x1
  obtain ⟨x0, x1⟩ := HC.out w1 hb1
  have HB := Lib.hid hb1
  clear hc1 hb1 HW HC
  go_wp2_with fail
  refine (HL.out _).mono ?_
  rintro e w2 ⟨o2, c2, rfl, hc2, hb2⟩
  have HB2 := Lib.hid (HB.out.trans (hb2.mono HB.out.size))
  go_wp2_with fail
  refine (HJ.out o2 c2 _ hc2).mono ?_
  rintro e w3 ⟨rfl, rfl⟩
  clear hc2 hb2
  go_wp2_with fail
  go_ret2
  exact ans_ok HE.out HB2.out
end Go.Proofs.YtbngoodjgijmgaaGreatDoor

namespace Go.Proofs.YtbngoodjgijmgaaGreatDoor
open Go.RowKit Go.Shelf

theorem len1 {l : List BT} (h : l.length = 1) : ∃ a, l = [a] := by
  match l, h with
  | [a], _ => exact ⟨a, rfl⟩
theorem len2 {l : List BT} (h : l.length = 2) : ∃ a b, l = [a, b] := by
  match l, h with
  | [a, b], _ => exact ⟨a, b, rfl⟩
theorem len3 {l : List BT} (h : l.length = 3) : ∃ a b c, l = [a, b, c] := by
  match l, h with
  | [a, b, c], _ => exact ⟨a, b, c, rfl⟩
theorem answer10_any (s : ByteArray) (o : Option Addr) (c : Nat) (xs : List BT) (hz : ∀ x ∈ xs, x.length ≤ 4000) (h0 : manyOf s.data.toList ≠ 0) (hm : (xs.length : Int) = manyOf s.data.toList) (w : World) (hc : CellsW w o c xs) :
    Calls Tryz.prog 104 #[.string s, .slice o xs.length c] w (AnsPost (ansT s.data.toList xs) w) := by
  have k1 : manyOf s.data.toList = 1 → ∃ t, xs = [t] ∧ t.length ≤ 4000 := fun h => by
    obtain ⟨t, rfl⟩ := len1 (l := xs) (by omega)
    exact ⟨t, rfl, hz t (by simp)⟩
  have k2 : manyOf s.data.toList = 2 → ∃ a t, xs = [a, t] ∧ a.length ≤ 4000 ∧ t.length ≤ 4000 := fun h => by
    obtain ⟨a, t, rfl⟩ := len2 (l := xs) (by omega)
    exact ⟨a, t, rfl, hz a (by simp), hz t (by simp)⟩
  have k3 : manyOf s.data.toList = 3 → ∃ a b t, xs = [a, b, t] ∧ a.length ≤ 4000 ∧ b.length ≤ 4000 ∧ t.length ≤ 4000 := fun h => by
    obtain ⟨a, b, t, rfl⟩ := len3 (l := xs) (by omega)
    exact ⟨a, b, t, rfl, hz a (by simp), hz b (by simp), hz t (by simp)⟩
  rcases is_name h0 with h | h | h | h | h | h | h | h | h | h | h | h | h | h | h | h | h | h | h
  · obtain ⟨a, b, t, rfl, ha, hb, ht⟩ := k3 (by rw [h]; decide)
    have := ans_subst s h o c a b t ha hb ht w hc
    rwa [← h] at this
  · obtain ⟨a, t, rfl, ha, ht⟩ := k2 (by rw [h]; decide)
    have := ans_findstring s h o c a t ha ht w hc
    rwa [← h] at this
  · obtain ⟨t, rfl, ht⟩ := k1 (by rw [h]; decide)
    have := ans_words s h o c t ht w hc
    rwa [← h] at this
  · obtain ⟨a, t, rfl, ha, ht⟩ := k2 (by rw [h]; decide)
    have := ans_word s h o c a t ha ht w hc
    rwa [← h] at this
  · obtain ⟨a, b, t, rfl, ha, hb, ht⟩ := k3 (by rw [h]; decide)
    have := ans_wordlist s h o c a b t ha hb ht w hc
    rwa [← h] at this
  · obtain ⟨a, b, t, rfl, ha, hb, ht⟩ := k3 (by rw [h]; decide)
    have := ans_patsubst s h o c a b t ha hb ht w hc
    rwa [← h] at this
  · obtain ⟨a, t, rfl, ha, ht⟩ := k2 (by rw [h]; decide)
    exact ans_each2 s (by simp [h]) o c a t ha ht w hc
  · obtain ⟨a, t, rfl, ha, ht⟩ := k2 (by rw [h]; decide)
    exact ans_each2 s (by simp [h]) o c a t ha ht w hc
  · obtain ⟨t, rfl, ht⟩ := k1 (by rw [h]; decide)
    have := ans_sort s h o c t ht w hc
    rwa [← h] at this
  · obtain ⟨t, rfl, ht⟩ := k1 (by rw [h]; decide)
    have := ans_firstword s h o c t ht w hc
    rwa [← h] at this
  · obtain ⟨t, rfl, ht⟩ := k1 (by rw [h]; decide)
    have := ans_lastword s h o c t ht w hc
    rwa [← h] at this
  · obtain ⟨t, rfl, ht⟩ := k1 (by rw [h]; decide)
    exact ans_each1 s (by simp [h]) o c t ht w hc
  · obtain ⟨t, rfl, ht⟩ := k1 (by rw [h]; decide)
    exact ans_each1 s (by simp [h]) o c t ht w hc
  · obtain ⟨t, rfl, ht⟩ := k1 (by rw [h]; decide)
    exact ans_each1 s (by simp [h]) o c t ht w hc
  · obtain ⟨t, rfl, ht⟩ := k1 (by rw [h]; decide)
    exact ans_each1 s (by simp [h]) o c t ht w hc
  · obtain ⟨a, t, rfl, ha, ht⟩ := k2 (by rw [h]; decide)
    exact ans_each2 s (by simp [h]) o c a t ha ht w hc
  · obtain ⟨a, t, rfl, ha, ht⟩ := k2 (by rw [h]; decide)
    exact ans_each2 s (by simp [h]) o c a t ha ht w hc
  · obtain ⟨a, t, rfl, ha, ht⟩ := k2 (by rw [h]; decide)
    have := ans_join s h o c a t ha ht w hc
    rwa [← h] at this
  · obtain ⟨t, rfl, ht⟩ := k1 (by rw [h]; decide)
    exact ans_each1 s (by simp [h]) o c t ht w hc

set_option maxRecDepth 100000 in
set_option maxHeartbeats 2000000 in
theorem call10_none (s : ByteArray) (o : Option Addr) (n c : Nat) (xs : List BT) (h0 : manyOf s.data.toList = 0) (w : World) :
    Calls Tryz.prog 76 #[.string s, .slice o n c] w (CallPost s.data.toList xs w) := by
  have HV : Hid (callT s.data.toList xs = ([], 4)) := by
    show _ = _
    unfold callT
    rw [if_pos h0]
  have HM := many10_any s
  rw [h0] at HM
  have HM' := Lib.hid HM
  clear h0 HM
  go_enter Tryz.func76, Tryz.ntmps76
  go_wp2_with fail
  refine (HM'.out w).mono ?_
  rintro e _ ⟨rfl, rfl⟩
  go_wp2_with fail
  go_ret2
  exact ⟨by rw [HV.out]; rfl, Below.refl _ _⟩
set_option maxRecDepth 100000 in
set_option maxHeartbeats 2000000 in
theorem call10_wrong (s : ByteArray) (o : Option Addr) (n c : Nat) (xs : List BT) (hxl : n = xs.length) (hn : (n : Int) ≠ manyOf s.data.toList) (h0 : manyOf s.data.toList ≠ 0) (w : World) :
    Calls Tryz.prog 76 #[.string s, .slice o n c] w (CallPost s.data.toList xs w) := by
  have HV : Hid (callT s.data.toList xs = ([], 1)) := by
    show _ = _
    unfold callT
    rw [if_neg h0, if_neg (by rw [← hxl]; exact hn)]
  have HM := Lib.hid (many10_any s)
  generalize manyOf s.data.toList = mv at HM h0 hn
  have e1 : (mv == 0) = false := by rw [beq_eq_false_iff_ne]; exact h0
  have e2 : ((n : Int) != mv) = true := by rw [bne_iff_ne]; exact hn
  clear h0 hn hxl
  go_enter Tryz.func76, Tryz.ntmps76
  go_wp2_with fail
  refine (HM.out w).mono ?_
  rintro e _ ⟨rfl, rfl⟩
  go_wp2_with fail
  go_ret2
  exact ⟨by rw [HV.out]; rfl, Below.refl _ _⟩
set_option maxRecDepth 100000 in
set_option maxHeartbeats 2000000 in
theorem call10_any (s : ByteArray) (o : Option Addr) (c : Nat) (xs : List BT) (hz : ∀ x ∈ xs, x.length ≤ 4000) (w : World) (hc : CellsW w o c xs) :
    Calls Tryz.prog 76 #[.string s, .slice o xs.length c] w (CallPost s.data.toList xs w) := by
  by_cases h0 : manyOf s.data.toList = 0
  · exact call10_none s o _ c xs h0 w
  by_cases hne : (xs.length : Int) ≠ manyOf s.data.toList
  · exact call10_wrong s o _ c xs rfl hne h0 w
  have hn : (xs.length : Int) = manyOf s.data.toList := Decidable.not_not.1 hne
  have hA := answer10_any s o c xs hz h0 hn w hc
  have hV : callT s.data.toList xs = finT (ansT s.data.toList xs) := by
    unfold callT
    rw [if_neg h0, if_pos hn]
  unfold CallPost
  rw [hV]
  clear hV hz hc hne
  have HA := Lib.hid hA
  clear hA
  generalize ansT s.data.toList xs = r at HA ⊢
  have HM := Lib.hid (many10_any s)
  generalize manyOf s.data.toList = mv at HM h0 hn
  generalize xs.length = n at HA hn ⊢
  have e1 : (mv == 0) = false := by rw [beq_eq_false_iff_ne]; exact h0
  have e2 : ((n : Int) != mv) = false := by rw [bne_eq_false_iff_eq]; exact hn
  clear h0 hn
  go_enter Tryz.func76, Tryz.ntmps76
  go_wp2_with fail
  refine (HM.out w).mono ?_
  rintro e _ ⟨rfl, rfl⟩
  go_wp2_with fail
  refine HA.out.mono ?_
  rintro e w1 ⟨hb, ⟨t, rfl, rfl⟩ | ⟨t, rfl, rfl⟩⟩
  · by_cases h4 : t.length ≤ 4000
    · have HV : Hid (finT (some t) = (t, 0)) := by show _ = _; unfold finT; exact if_pos h4
      have h5 : ¬ (4000 : Int) < ((txt t).size : Int) := by rw [txt_size]; omega
      have h6 : ¬ 4000 < (txt t).size := by rw [txt_size]; omega
      go_wp2_with fail
      go_ret2
      exact ⟨by rw [HV.out]; rfl, hb⟩
    · have HV : Hid (finT (some t) = ([], 3)) := by show _ = _; unfold finT; exact if_neg h4
      have h5 : (4000 : Int) < ((txt t).size : Int) := by rw [txt_size]; omega
      have h6 : 4000 < (txt t).size := by rw [txt_size]; omega
      go_wp2_with fail
      go_ret2
      exact ⟨by rw [HV.out]; rfl, hb⟩
  · go_wp2_with fail
    go_ret2
    exact ⟨rfl, hb⟩
end Go.Proofs.YtbngoodjgijmgaaGreatDoor
