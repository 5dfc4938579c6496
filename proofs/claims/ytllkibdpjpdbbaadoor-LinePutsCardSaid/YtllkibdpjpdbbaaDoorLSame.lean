/-
  Whether two lists of texts, or two lists of such, are the same, as the statements' own functions ask it.
-/
import Derived.Deep.QuietTactic
import Derived.BigQuiet
import Derived.Test.YtllkibdpjpdbbaaDoorLScan
import Derived.Test.YtllkibdpjpdbbaaDoorLLeaf
namespace Go.Proofs.YtllkibdpjpdbbaaDoor
open Go.RowKit Go.Shelf
attribute [local go_sem] Oper.semAt_some


set_option maxHeartbeats 400000 in
theorem same_unlike (oa ob : Option Addr) (n m ca cb : Nat) (w : World) (h : n ≠ m) :
    Calls Tryd.prog 18 #[.slice oa n ca, .slice ob m cb] w fun e w' => e = .returned (.bool false) ∧ w = w' := by
  have e1 := nat_bne_t h
  have H := Lib.hid h; clear h
  go_enter Tryd.func18, Tryd.ntmps18
  go_wp2
  go_ret
  exact ⟨rfl, rfl⟩
set_option maxHeartbeats 400000 in
theorem same_none (oa ob : Option Addr) (ca cb : Nat) (w : World) :
    Calls Tryd.prog 18 #[.slice oa 0 ca, .slice ob 0 cb] w fun e w' => e = .returned (.bool true) ∧ w = w' := by
  go_enter Tryd.func18, Tryd.ntmps18
  go_wp2
  go_loop [5] (fun i => i = .int .i64 0) (fun _ => 0)
  case atStart => rfl
  case round =>
    obtain rfl := hrel
    go_wp2
    go_ret
    exact ⟨rfl, rfl⟩
set_option maxRecDepth 100000 in
set_option maxHeartbeats 1000000 in
theorem same_some (xs ys : List ByteArray) (ba bb oa ob ca cb : Nat) (w : World) (hl : xs.length = ys.length) (hn : xs.length ≤ maxLen) (hxc : xs.length ≤ ca) (hyc : ys.length ≤ cb)
    (hx : ∀ j x, xs[j]? = some x → w.cell? ⟨ba, oa + j, none⟩ = some (.string x)) (hy : ∀ j x, ys[j]? = some x → w.cell? ⟨bb, ob + j, none⟩ = some (.string x)) :
    Calls Tryd.prog 18 #[.slice (some ⟨ba, oa, none⟩) xs.length ca, .slice (some ⟨bb, ob, none⟩) xs.length cb] w fun e w' => e = .returned (.bool (decide (xs = ys))) ∧ ∃ n, w' = w.drewN n := by
  unfold maxLen at hn
  have HL := Lib.hid hl
  have HX := Lib.hid hx
  have HY := Lib.hid hy
  clear hl hx hy
  go_enter Tryd.func18, Tryd.ntmps18
  go_wp2
  go_loopw [5] (fun i wr => ∃ k q : Nat, k ≤ xs.length ∧ i = .int .i64 k ∧ xs.take k = ys.take k ∧ wr = w.drewN q) (fun i _ => xs.length - (intOf i).toNat)
  case atStart => exact ⟨0, 0, Nat.zero_le _, rfl, by simp, rfl⟩
  case round =>
    obtain ⟨k, q, hk, rfl, htk, rfl⟩ := hrel
    by_cases hlt : k < xs.length
    · have hlt2 : k < ys.length := by rw [← HL.out]; exact hlt
      have hlt3 : k < cb := by omega
      have hlt4 : k < ca := by omega
      have c1 : w.cell? ⟨ba, oa + k, none⟩ = some (.string xs[k]) := HX.out k _ (List.getElem?_eq_getElem hlt)
      have c2 : w.cell? ⟨bb, ob + k, none⟩ = some (.string ys[k]) := HY.out k _ (List.getElem?_eq_getElem hlt2)
      have HT := Lib.hid htk; clear htk
      by_cases he : xs[k] = ys[k]
      · have h1 := str_ne_f he
        have hT1 : xs.take (k + 1) = ys.take (k + 1) := by
          rw [List.take_succ_eq_append_getElem hlt, List.take_succ_eq_append_getElem hlt2, HT.out, he]
        have HT1 := Lib.hid hT1; clear hT1 he
        generalize xs[k] = a at c1 h1
        generalize ys[k] = b at c2 h1
        go_wp2
        go_quiet (fail)
        go_wp2
        go_roundw
        case rel => exact ⟨k + 1, _, hlt, by go_num, HT1.out, rfl⟩
        case measure => simp [intOf]; omega
      · have h1 := str_ne_t he
        have HE : Hid (¬ xs = ys) := fun h => he (by subst h; rfl)
        clear he
        generalize xs[k] = a at c1 h1
        generalize ys[k] = b at c2 h1
        go_wp2
        go_quiet (fail)
        go_wp2
        go_ret
        exact ⟨ret_bool (by simp [HE.out]), q + nq, World.drewN_drewN _ _ _⟩
    · have HE : Hid (xs = ys) := by
        show xs = ys
        rw [List.take_of_length_le (by omega), List.take_of_length_le (by rw [← HL.out]; omega)] at htk
        exact htk
      clear htk
      go_wp2
      go_ret
      exact ⟨ret_bool (by simp [HE.out]), q, rfl⟩

theorem same_any (va vb : Value) (xs ys : List ByteArray) (B : Nat) (w : World) (ha : ReadsO w B va xs) (hb : ReadsO w B vb ys) (hn : xs.length ≤ maxLen) :
    Calls Tryd.prog 18 #[va, vb] w fun e w' => e = .returned (.bool (decide (xs = ys))) ∧ ∃ n, w' = w.drewN n := by
  obtain ⟨oa, ca, rfl, hxa⟩ := ha
  obtain ⟨ob, cb, rfl, hxb⟩ := hb
  by_cases hl : xs.length = ys.length
  · by_cases h0 : xs.length = 0
    · have hx : xs = [] := List.eq_nil_of_length_eq_zero h0
      have hy : ys = [] := List.eq_nil_of_length_eq_zero (by omega)
      subst hx; subst hy
      exact (same_none oa ob ca cb w).mono fun e w' h => ⟨by simpa using h.1, 0, h.2.symm⟩
    · obtain ⟨x0, hx0⟩ : ∃ x, xs[0]? = some x := ⟨xs[0], List.getElem?_eq_getElem (by omega)⟩
      obtain ⟨y0, hy0⟩ : ∃ y, ys[0]? = some y := ⟨ys[0], List.getElem?_eq_getElem (by omega)⟩
      obtain ⟨ba, fa, rfl, _, hca, _⟩ := hxa 0 x0 hx0
      obtain ⟨bb, fb, rfl, _, hcb, _⟩ := hxb 0 y0 hy0
      have h1 : ∀ j x, xs[j]? = some x → w.cell? ⟨ba, fa + j, none⟩ = some (.string x) := by
        intro j x hj
        obtain ⟨b, f, e, _, _, h⟩ := hxa j x hj
        cases e; exact h
      have h2 : ∀ j x, ys[j]? = some x → w.cell? ⟨bb, fb + j, none⟩ = some (.string x) := by
        intro j x hj
        obtain ⟨b, f, e, _, _, h⟩ := hxb j x hj
        cases e; exact h
      have := same_some xs ys ba bb fa fb ca cb w hl hn hca hcb h1 h2
      rw [← hl]
      exact this
  · refine (same_unlike oa ob _ _ ca cb w hl).mono fun e w' h => ⟨?_, 0, h.2.symm⟩
    rw [h.1]
    exact ret_bool (by symm; simp; rintro rfl; exact hl rfl)

set_option maxHeartbeats 400000 in
theorem sameAll_unlike (oa ob : Option Addr) (n m ca cb : Nat) (w : World) (h : n ≠ m) :
    Calls Tryd.prog 19 #[.slice oa n ca, .slice ob m cb] w fun e w' => e = .returned (.bool false) ∧ w = w' := by
  have e1 := nat_bne_t h
  have H := Lib.hid h; clear h
  go_enter Tryd.func19, Tryd.ntmps19
  go_wp2
  go_ret
  exact ⟨rfl, rfl⟩

set_option maxRecDepth 100000 in
set_option maxHeartbeats 2000000 in
theorem sameAll_alike (va vb : Value) (xss yss : List (List ByteArray)) (B : Nat) (w : World) (ha : ReadsLL w B va xss) (hb : ReadsLL w B vb yss) (hn : xss.length ≤ maxLen) (hm : ∀ xs ∈ xss, xs.length ≤ maxLen) (hl : xss.length = yss.length) :
    Calls Tryd.prog 19 #[va, vb] w fun e w' => e = .returned (.bool (decide (xss = yss))) ∧ ∃ n, w' = w.drewN n := by
  unfold maxLen at hn
  obtain ⟨oa, ca, rfl, hxa⟩ := ha
  obtain ⟨ob, cb, rfl, hxb⟩ := hb
  rw [← hl]
  have HA := Lib.hid hxa
  have HB := Lib.hid hxb
  have HM := Lib.hid hm
  have HL := Lib.hid hl
  clear hxa hxb hm hl
  go_enter Tryd.func19, Tryd.ntmps19
  go_wp2
  go_loopw [5] (fun i wr => ∃ k q : Nat, k ≤ xss.length ∧ i = .int .i64 k ∧ xss.take k = yss.take k ∧ wr = w.drewN q) (fun i _ => xss.length - (intOf i).toNat)
  case atStart => exact ⟨0, 0, Nat.zero_le _, rfl, by simp, rfl⟩
  case round =>
    obtain ⟨k, q, hk, rfl, htk, hwr⟩ := hrel
    have HT := Lib.hid htk; clear htk
    have HW := Lib.hid hwr; clear hwr
    by_cases hlt : k < xss.length
    · have hlt2 : k < yss.length := by rw [← HL.out]; exact hlt
      obtain ⟨ba, fa, ua, rfl, _, hca, hcella, hra⟩ := HA.out k _ (List.getElem?_eq_getElem hlt)
      obtain ⟨bb, fb, ub, rfl, _, hcb, hcellb, hrb⟩ := HB.out k _ (List.getElem?_eq_getElem hlt2)
      have hlt3 : k < ca := by omega
      have hlt4 : k < cb := by have := HL.out; omega
      have hcella : wr.cell? ⟨ba, fa + k, none⟩ = some ua := by rw [HW.out]; exact hcella
      have hcellb : wr.cell? ⟨bb, fb + k, none⟩ = some ub := by rw [HW.out]; exact hcellb
      have hra : ReadsO wr B ua xss[k] := by rw [HW.out]; exact hra.below (below_drewN (Below.refl _ _) q) (Nat.le_refl _)
      have hrb : ReadsO wr B ub yss[k] := by rw [HW.out]; exact hrb.below (below_drewN (Below.refl _ _) q) (Nat.le_refl _)
      have hS := fun m => same_any ua ub xss[k] yss[k] B (wr.drewN m) (hra.below (below_drewN (Below.refl _ _) m) (Nat.le_refl _)) (hrb.below (below_drewN (Below.refl _ _) m) (Nat.le_refl _)) (HM.out _ (List.getElem_mem hlt))
      by_cases he : xss[k] = yss[k]
      · have HS : Hid (∀ m, Calls Tryd.prog 18 #[ua, ub] (wr.drewN m) fun e w' => e = .returned (.bool true) ∧ ∃ n, w' = wr.drewN n) := fun m => (hS m).mono fun e w' h => ⟨by rw [h.1, decide_eq_true he], by obtain ⟨n, h⟩ := h.2; exact ⟨m + n, by rw [h, World.drewN_drewN]⟩⟩
        have HT1 : Hid (xss.take (k + 1) = yss.take (k + 1)) := by
          show _ = _
          rw [List.take_succ_eq_append_getElem hlt, List.take_succ_eq_append_getElem hlt2, HT.out, he]
        clear hS he hra hrb
        go_wp2
        go_quiet ((exact HS.out _))
        go_wp2
        go_roundw
        case rel => exact ⟨k + 1, _, hlt, by go_num, HT1.out, by rw [HW.out]; exact World.drewN_drewN _ _ _⟩
        case measure => simp [intOf]; omega
      · have HS : Hid (∀ m, Calls Tryd.prog 18 #[ua, ub] (wr.drewN m) fun e w' => e = .returned (.bool false) ∧ ∃ n, w' = wr.drewN n) := fun m => (hS m).mono fun e w' h => ⟨by rw [h.1, decide_eq_false he], by obtain ⟨n, h⟩ := h.2; exact ⟨m + n, by rw [h, World.drewN_drewN]⟩⟩
        have HE : Hid (¬ xss = yss) := fun h => he (by subst h; rfl)
        clear hS he hra hrb
        go_wp2
        go_quiet ((exact HS.out _))
        go_wp2
        go_ret
        exact ⟨ret_bool (by simp [HE.out]), q + nq, by rw [HW.out]; exact World.drewN_drewN _ _ _⟩
    · have HE : Hid (xss = yss) := by
        show xss = yss
        have := HT.out
        rw [List.take_of_length_le (by omega), List.take_of_length_le (by rw [← HL.out]; omega)] at this
        exact this
      go_wp2
      go_ret
      exact ⟨ret_bool (by simp [HE.out]), q, HW.out⟩

theorem sameAll_any (va vb : Value) (xss yss : List (List ByteArray)) (B : Nat) (w : World) (ha : ReadsLL w B va xss) (hb : ReadsLL w B vb yss) (hn : xss.length ≤ maxLen) (hm : ∀ xs ∈ xss, xs.length ≤ maxLen) :
    Calls Tryd.prog 19 #[va, vb] w fun e w' => e = .returned (.bool (decide (xss = yss))) ∧ Below w.heap.size w w' := by
  by_cases hl : xss.length = yss.length
  · exact (sameAll_alike va vb xss yss B w ha hb hn hm hl).mono fun e w' h => ⟨h.1, by obtain ⟨n, h⟩ := h.2; rw [h]; exact below_drewN (Below.refl _ _) n⟩
  · obtain ⟨oa, ca, rfl, _⟩ := ha
    obtain ⟨ob, cb, rfl, _⟩ := hb
    refine (sameAll_unlike oa ob _ _ ca cb w hl).mono fun e w' h => ⟨?_, h.2 ▸ Below.refl _ _⟩
    rw [h.1]
    exact ret_bool (by symm; simp; rintro rfl; exact hl rfl)
theorem same_b (va vb : Value) (xs ys : List ByteArray) (B : Nat) (w : World) (ha : ReadsO w B va xs) (hb : ReadsO w B vb ys) (hn : xs.length ≤ maxLen) :
    Calls Tryd.prog 18 #[va, vb] w fun e w' => e = .returned (.bool (decide (xs = ys))) ∧ Below w.heap.size w w' :=
  (same_any va vb xs ys B w ha hb hn).mono fun e w' h => ⟨h.1, by obtain ⟨n, h⟩ := h.2; rw [h]; exact below_drewN (Below.refl _ _) n⟩

end Go.Proofs.YtllkibdpjpdbbaaDoor
