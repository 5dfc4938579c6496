/-
  Whether two lists of texts are the same, as the statements' own function same asks it: for all lists that can be read.
-/
import Derived.Test.YtebamellddoaeaaDoorText
namespace Go.Proofs.YtebamellddoaeaaDoor
open Go.RowKit Go.Shelf

theorem nat_bne_t {a b : Nat} (h : a ≠ b) : (((a : Nat) : Int) != (b : Int)) = true := by simp; omega
theorem nat_bne_f {a b : Nat} (h : a = b) : (((a : Nat) : Int) != (b : Int)) = false := by simp; omega

set_option maxHeartbeats 400000 in
theorem same_unlike (oa ob : Option Addr) (n m ca cb : Nat) (w : World) (h : n ≠ m) :
    Calls Tryd.prog 7 #[.slice oa n ca, .slice ob m cb] w fun e w' => e = .returned (.bool false) ∧ w = w' := by
  have e1 := nat_bne_t h
  have H := Lib.hid h; clear h
  go_enter Tryd.func7, Tryd.ntmps7
  go_wp2
  go_ret
  exact ⟨rfl, rfl⟩

set_option maxHeartbeats 400000 in
theorem same_none (oa ob : Option Addr) (ca cb : Nat) (w : World) :
    Calls Tryd.prog 7 #[.slice oa 0 ca, .slice ob 0 cb] w fun e w' => e = .returned (.bool true) ∧ w = w' := by
  go_enter Tryd.func7, Tryd.ntmps7
  go_wp2
  go_loop [5] (fun i => i = .int .i64 0) (fun _ => 0)
  case atStart => rfl
  case round =>
    obtain rfl := hrel
    go_wp2
    go_ret
    exact ⟨rfl, rfl⟩

theorem toL_inj {a b : ByteArray} (h : a.toList = b.toList) : a = b := by
  rw [Lib.toList_data, Lib.toList_data] at h
  rw [← txt_toList a, ← txt_toList b, h]
theorem str_eq (a b : ByteArray) : (a.toList == b.toList) = decide (a = b) := by
  rw [Bool.eq_iff_iff]
  simp only [beq_iff_eq, decide_eq_true_eq]
  exact ⟨toL_inj, fun h => by rw [h]⟩
theorem str_ne_f {a b : ByteArray} (h : a = b) : (!a.toList == b.toList) = false := by rw [str_eq]; simp [h]
theorem str_ne_t {a b : ByteArray} (h : a ≠ b) : (!a.toList == b.toList) = true := by rw [str_eq]; simp [h]

set_option maxRecDepth 100000 in
set_option maxHeartbeats 1000000 in
theorem same_some (xs ys : List ByteArray) (ba bb oa ob ca cb : Nat) (w : World) (hl : xs.length = ys.length) (hn : xs.length ≤ maxLen) (hxc : xs.length ≤ ca) (hyc : ys.length ≤ cb)
    (hx : ∀ j x, xs[j]? = some x → w.cell? ⟨ba, oa + j, none⟩ = some (.string x)) (hy : ∀ j x, ys[j]? = some x → w.cell? ⟨bb, ob + j, none⟩ = some (.string x)) :
    Calls Tryd.prog 7 #[.slice (some ⟨ba, oa, none⟩) xs.length ca, .slice (some ⟨bb, ob, none⟩) xs.length cb] w fun e w' => e = .returned (.bool (decide (xs = ys))) ∧ ∃ n, w' = w.drewN n := by
  unfold maxLen at hn
  have HL := Lib.hid hl
  have HX := Lib.hid hx
  have HY := Lib.hid hy
  clear hl hx hy
  go_enter Tryd.func7, Tryd.ntmps7
  go_wp2
  go_loopw [5] (fun i wr => ∃ k q : Nat, k ≤ xs.length ∧ i = .int .i64 k ∧ xs.take k = ys.take k ∧ wr = w.drewN q) (fun i _ => xs.length - (intOf i).toNat)
  case atStart => exact ⟨0, 0, Nat.zero_le _, rfl, by simp, rfl⟩
  case round =>
    obtain ⟨k, q, hk, rfl, htk, rfl⟩ := hrel
    by_cases hlt : k < xs.length
    · have hlt2 : k < ys.length := by rw [← HL.out]; exact hlt
      have hlt3 : k < cb := by omega
      have hlt4 : k < ca := by omega
      have c1 : w.cell? ⟨ba, oa + k, none⟩ = some (.string xs[k]) := HX.out k _ (List.getElem?_eq_getElem hlt)
      have c2 : w.cell? ⟨bb, ob + k, none⟩ = some (.string ys[k]) := HY.out k _ (List.getElem?_eq_getElem hlt2)
      have HT := Lib.hid htk; clear htk
      by_cases he : xs[k] = ys[k]
      · have h1 := str_ne_f he
        have hT1 : xs.take (k + 1) = ys.take (k + 1) := by
          rw [List.take_succ_eq_append_getElem hlt, List.take_succ_eq_append_getElem hlt2, HT.out, he]
        have HT1 := Lib.hid hT1; clear hT1 he
        generalize xs[k] = a at c1 h1
        generalize ys[k] = b at c2 h1
        go_wp2
        go_quiet (fail)
        go_wp2
        go_roundw
        case rel => exact ⟨k + 1, _, hlt, by go_num, HT1.out, rfl⟩
        case measure => simp [intOf]; omega
      · have h1 := str_ne_t he
        have HE : Hid (¬ xs = ys) := fun h => he (by subst h; rfl)
        clear he
        generalize xs[k] = a at c1 h1
        generalize ys[k] = b at c2 h1
        go_wp2
        go_quiet (fail)
        go_wp2
        go_ret
        exact ⟨ret_bool (by simp [HE.out]), q + nq, World.drewN_drewN _ _ _⟩
    · have HE : Hid (xs = ys) := by
        show xs = ys
        rw [List.take_of_length_le (by omega), List.take_of_length_le (by rw [← HL.out]; omega)] at htk
        exact htk
      clear htk
      go_wp2
      go_ret
      exact ⟨ret_bool (by simp [HE.out]), q, rfl⟩

theorem same_any (va vb : Value) (xs ys : List ByteArray) (B : Nat) (w : World) (ha : Reads w B va xs) (hb : Reads w B vb ys) (hn : xs.length ≤ maxLen) :
    Calls Tryd.prog 7 #[va, vb] w fun e w' => e = .returned (.bool (decide (xs = ys))) ∧ ∃ n, w' = w.drewN n := by
  have len : ∀ {v : Value} {l : List ByteArray}, Reads w B v l → ∃ o c, v = .slice o l.length c := by
    rintro v l (⟨rfl, rfl⟩ | ⟨b, o, c, rfl, _⟩)
    · exact ⟨_, _, rfl⟩
    · exact ⟨_, _, rfl⟩
  by_cases hl : xs.length = ys.length
  · by_cases h0 : xs.length = 0
    · have hx : xs = [] := List.eq_nil_of_length_eq_zero h0
      have hy : ys = [] := List.eq_nil_of_length_eq_zero (by omega)
      subst hx; subst hy
      obtain ⟨oa, ca, rfl⟩ := len ha
      obtain ⟨ob, cb, rfl⟩ := len hb
      exact (same_none oa ob ca cb w).mono fun e w' h => ⟨by simpa using h.1, 0, h.2.symm⟩
    · rcases ha with ⟨_, h⟩ | ⟨ba, oa, ca, rfl, _, hca, hxa⟩
      · subst h; simp at h0
      · rcases hb with ⟨_, h⟩ | ⟨bb, ob, cb, rfl, _, hcb, hxb⟩
        · subst h; exact absurd hl h0
        · have := same_some xs ys ba bb oa ob ca cb w hl hn hca hcb hxa hxb
          rw [← hl]
          exact this
  · obtain ⟨oa, ca, rfl⟩ := len ha
    obtain ⟨ob, cb, rfl⟩ := len hb
    refine (same_unlike oa ob _ _ ca cb w hl).mono fun e w' h => ⟨?_, 0, h.2.symm⟩
    rw [h.1]
    exact ret_bool (by symm; simp; rintro rfl; exact hl rfl)

end Go.Proofs.YtebamellddoaeaaDoor
