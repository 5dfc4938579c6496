/-
  The statements' own shown and texts, of what Lex tells. No condition but that each call of Lex tells what the chapter says.
-/
import Derived.Deep.RegionHeld3
import Derived.Deep.QuietTactic
import Derived.BigQuiet
import Derived.Test.YtmonbnmjbgdkoaaDoorEI
import Derived.Test.YtmonbnmjbgdkoaaDoorEL
namespace Go.Proofs.YtmonbnmjbgdkoaaDoor
open Go.RowKit

theorem below_drew {B : Nat} {a w : World} (h : Below B a w) : Below B a w.drew := ⟨h.os, h.tape, h.output, h.size, h.block⟩
theorem below_drewN {B : Nat} {a w : World} (h : Below B a w) (m : Nat) : Below B a (w.drewN m) := ⟨h.os, h.tape, h.output, h.size, h.block⟩
theorem list_app (a b : ByteArray) : (a ++ b).data.toList = a.data.toList ++ b.data.toList := by rw [ByteArray.data_append, Array.toList_append]
theorem size_of (s : ByteArray) : s.data.toList.length = s.size := by rw [Array.length_toList]; rfl

theorem byte_next {s : ByteArray} {k : Nat} {P : UInt8 → Prop} (h : ∀ x ∈ s.data.toList.take k, P x) (hk : k < s.size) (hx : P s[k]) : ∀ x ∈ s.data.toList.take (k + 1), P x := by
  have hk' : k < s.data.toList.length := by rw [size_of]; exact hk
  rw [List.take_succ_eq_append_getElem hk', Array.getElem_toList]
  intro x hm
  rcases List.mem_append.1 hm with hm | hm
  · exact h x hm
  · simp only [List.mem_singleton] at hm
    rw [hm]
    exact hx
theorem byte_all {s : ByteArray} {P : UInt8 → Prop} (h : ∀ x ∈ s.data.toList.take s.size, P x) : ∀ x ∈ s.data.toList, P x := by
  rw [← size_of, List.take_length] at h
  exact h
theorem ne_of {x : UInt8} {n : Nat} (hn : n < 256) (h : x.toNat ≠ n) : x ≠ UInt8.ofNat n := fun e => h (by rw [e]; simp; omega)
theorem blank_not {x : UInt8} (h1 : x.toNat ≠ 32) (h2 : x.toNat ≠ 9) : blankB x = false := by
  unfold blankB
  simp [h1, h2]
theorem lex_len (s : BS) : (lexOf s).1.length ≤ 300 := by
  cases h : scanL 0 (itemsL 1 (linesL s)) with
  | none =>
    rw [lex_ok h]
    have := (scan_none h).2
    show (itemsL 1 (linesL s)).length ≤ 300
    by_cases hn : itemsL 1 (linesL s) = []
    · rw [hn]; simp
    · have := this hn; omega
  | some n => rw [lex_err h]; simp
theorem app_at {a b s : ByteArray} (hs : s = a ++ b) {k : Nat} (hk : k < a.size) (hk2 : k < s.size) : s[k] = a[k] := by
  subst hs
  exact ByteArray.getElem_append_left hk
def strLen : Value → Nat
  | .string s => s.size
  | _ => 0
theorem list_last (s : ByteArray) (h : 0 < s.size) : s.data.toList = s.data.toList.take (s.size - 1) ++ [s[s.size - 1]] := by
  have h' : s.size - 1 < s.data.toList.length := by rw [Array.length_toList]; show s.size - 1 < s.size; omega
  have := List.take_succ_eq_append_getElem h'
  rw [show s.size - 1 + 1 = s.size by omega, Array.getElem_toList, List.take_of_length_le (by rw [Array.length_toList]; exact Nat.le_refl _)] at this
  exact this
theorem txt_of {l : BS} {z : ByteArray} (h : z.data.toList = l) : txt l = z := by rw [← h, txt_toList]
/-- A call of Lex, by what its text is. -/
theorem LexC.of (HL : LexC) (A : BS) (hA : A.length ≤ 1000000) (z : ByteArray) (W : World) (hz : z.data.toList = A) : Calls Tryd.prog 9 #[.string z] W (LexPost W A) := by
  have := HL z W (by rw [← size_of, hz]; exact hA)
  rw [hz] at this
  exact this

set_option maxRecDepth 100000 in
set_option maxHeartbeats 4000000 in
theorem shown8 (HL : LexC) (w : World) : Calls Tryd.prog 8 #[] w fun e w' => e = .returned (.bool true) ∧ Below w.heap.size w w' := by
  have H := HL ⟨#[97, 32, 61, 32, 98, 32, 92, 10, 9, 99, 32, 35, 32, 100, 10, 9, 114, 117, 110, 32, 35, 10]⟩ w (by decide)
  unfold LexPost at H
  rw [show (⟨#[97, 32, 61, 32, 98, 32, 92, 10, 9, 99, 32, 35, 32, 100, 10, 9, 114, 117, 110, 32, 35, 10]⟩ : ByteArray).data.toList = shownT from rfl, shown_lex] at H
  have HX : Hid (Calls Tryd.prog 9 #[.string ⟨#[97, 32, 61, 32, 98, 32, 92, 10, 9, 99, 32, 35, 32, 100, 10, 9, 114, 117, 110, 32, 35, 10]⟩] w fun e w' => ∃ o c, e = .returned (.tuple #[.slice o 2 c, .int .i64 0, .int .i64 0]) ∧ ReadsI w' w'.heap.size (.slice o 2 c) [(1, false, [97, 32, 61, 32, 98, 32, 99]), (3, true, [114, 117, 110, 32, 35])] ∧ Below w.heap.size w w') := H
  clear H
  go_enter Tryd.func8, Tryd.ntmps8
  go_wp2_with fail
  refine HX.out.mono ?_
  rintro e w1 ⟨o, c, rfl, hr, hb⟩
  obtain ⟨b, f, rfl, hc, h0⟩ := hr.at (k := 0) rfl
  obtain ⟨b', f', e1, _, h1⟩ := hr.at (k := 1) rfl
  cases e1
  obtain ⟨x0, x1, x2⟩ := h0 w1 (Below.refl _ _)
  obtain ⟨x3, x4, x5⟩ := h1 w1 (Below.refl _ _)
  simp only [Nat.zero_mul, Nat.add_zero, Nat.one_mul, Nat.add_assoc, Nat.reduceAdd] at x0 x1 x2 x3 x4 x5
  replace x2 : w1.cell? ⟨b, f + 2, none⟩ = some (.string ⟨#[97, 32, 61, 32, 98, 32, 99]⟩) := x2
  replace x5 : w1.cell? ⟨b, f + 5, none⟩ = some (.string ⟨#[114, 117, 110, 32, 35]⟩) := x5
  replace x0 : w1.cell? ⟨b, f, none⟩ = some (.int .i64 1) := x0
  replace x3 : w1.cell? ⟨b, f + 3, none⟩ = some (.int .i64 3) := x3
  have hb9 := Lib.hid hb
  have hc2 : 2 ≤ c := hc
  clear hr h0 h1 hb hc HX
  go_wp2
  go_ret
  exact ⟨rfl, hb9.out⟩
theorem shown_at (HL : LexC) (w W : World) (hb : Below w.heap.size w W) : Calls Tryd.prog 8 #[] W fun e w' => e = .returned (.bool true) ∧ Below w.heap.size w w' :=
  (shown8 HL W).mono fun _ _ h => ⟨h.1, hb.trans (h.2.mono hb.size)⟩

set_option maxRecDepth 100000 in
set_option maxHeartbeats 4000000 in
theorem texts_any (o1 o2 : Option Addr) (c1 c2 : Nat) (l1 l2 : List Item) (w : World) (h1 : ReadsI w w.heap.size (.slice o1 l1.length c1) l1) (h2 : ReadsI w w.heap.size (.slice o2 l2.length c2) l2) (he : l1.map Prod.snd = l2.map Prod.snd) (hn : l1.length ≤ 1000) :
    Calls Tryd.prog 10 #[.slice o1 l1.length c1, .slice o2 l2.length c2] w fun e w' => e = .returned (.bool true) ∧ Below w.heap.size w w' := by
  have hl : l2.length = l1.length := by have := congrArg List.length he; simpa using this.symm
  have HX : Hid (∀ k, k < l1.length → ∃ b f b' f' tb tx, o1 = some ⟨b, f, none⟩ ∧ o2 = some ⟨b', f', none⟩ ∧ l1.length ≤ c1 ∧ l1.length ≤ c2 ∧ ∀ W, Below w.heap.size w W → W.cell? ⟨b, f + k * 3 + 1, none⟩ = some (.bool tb) ∧ W.cell? ⟨b, f + k * 3 + 2, none⟩ = some (.string tx) ∧ W.cell? ⟨b', f' + k * 3 + 1, none⟩ = some (.bool tb) ∧ W.cell? ⟨b', f' + k * 3 + 2, none⟩ = some (.string tx)) := fun k hk => by
    have hk2 : k < l2.length := by omega
    obtain ⟨b, f, q1, q2, q3⟩ := h1.at (List.getElem?_eq_getElem hk)
    obtain ⟨b', f', r1, r2, r3⟩ := h2.at (List.getElem?_eq_getElem hk2)
    have e : l1[k].2 = l2[k].2 := by
      have h := congrArg (fun l => l[k]?) he
      simp only [List.getElem?_map, List.getElem?_eq_getElem hk, List.getElem?_eq_getElem hk2, Option.map_some, Option.some.injEq] at h
      exact h
    refine ⟨b, f, b', f', l1[k].2.1, txt l1[k].2.2, q1, r1, q2, by omega, fun W hb => ⟨(q3 W hb).2.1, (q3 W hb).2.2, ?_, ?_⟩⟩
    · rw [e]; exact (r3 W hb).2.1
    · rw [e]; exact (r3 W hb).2.2
  rw [hl]
  clear h1 h2 he hl
  have hb0 : Below w.heap.size w w := Below.refl _ _
  generalize l1.length = n at *
  go_enter Tryd.func10, Tryd.ntmps10
  go_wp2
  go_loopw [5] (fun i wr => ∃ k : Nat, k ≤ n ∧ i = .int .i64 k ∧ Below w.heap.size w wr) (fun i _ => n - (intOf i).toNat)
  case atStart => exact ⟨0, Nat.zero_le _, rfl, hb0⟩
  case round =>
    clear hb0
    obtain ⟨k, hk, rfl, hb⟩ := hrel
    by_cases hlt : k < n
    · obtain ⟨b, f, b', f', tb, tx, rfl, rfl, hc1, hc2, hx⟩ := HX.out k hlt
      have hbd : Below w.heap.size w wr.drew := below_drew hb
      obtain ⟨x1, x2, x3, x4⟩ := hx _ hbd
      obtain ⟨z1, z2, z3, z4⟩ := hx _ hb
      have hik : (k : Int) < (n : Int) := by omega
      have hi0 : (0 : Int) ≤ (k : Int) := by omega
      have hk1 : k < c1 := by omega
      have hk2 : k < c2 := by omega
      clear hx HX
      have hq : (tx.toList == tx.toList) = true := by simp
      go_wp2
      go_region_held3 (fun W => W.cell? ⟨b, f + k * 3 + 1, none⟩ = some (.bool tb) ∧ W.cell? ⟨b, f + k * 3 + 2, none⟩ = some (.string tx) ∧ W.cell? ⟨b', f' + k * 3 + 1, none⟩ = some (.bool tb) ∧ W.cell? ⟨b', f' + k * 3 + 2, none⟩ = some (.string tx) ∧ Below w.heap.size w W)
        (first | exact ⟨by assumption, by assumption, by assumption, by assumption, by assumption⟩)
        (first | fail)
      all_goals (
        go_wp2
        go_roundw
        case rel => exact ⟨k + 1, hlt, by go_num, by assumption⟩
        case measure => simp [intOf]; omega)
    · have hik : ¬ (k : Int) < (n : Int) := by omega
      clear HX
      go_wp2
      go_ret
      exact ⟨rfl, hb⟩

end Go.Proofs.YtmonbnmjbgdkoaaDoor
