/-
  Crash, where no change is left: all are kept, or there is none.
-/
import Derived.Test.YtginlknlkbhgaaaFCrash
namespace Go.Proofs.Ytginlknlkbhgaaa
open Go.RowKit Go.Shelf Go.Maps

set_option maxRecDepth 100000 in
set_option maxHeartbeats 4000000 in
theorem crash_full (bt : Nat) (X : Nat → Prop) (g n : Nat) (many part : Int) (room : Int) (S : St) (nm sm : Option Nat) (YN YS YP : Nat → Prop) (LN LS : FVs) (w : World) (hp : TreeP w X bt room S.clock nm sm (.slice (some ⟨g, 0, none⟩) n n) YN YS YP LN LS S.pend) (hnl : n = S.pend.length) (hlS : LS.length ≤ 200) (hg : Goes (strip LS) S.pend)
    (hcm : n ≤ maxLen) (hmin : min (max many 0) (n : Int) = (n : Int)) (_hp2 : part < 9223372036854775808) :
    Calls Try.prog 16 #[.pointer (some ⟨bt, 0, none⟩), .int .i64 many, .int .i64 part] w fun r w' => r = .returned (.tuple #[]) ∧ StepS w X bt room (opC (S.clock, S.now, strip LS, S.pend) many part) w' := by
  have hi1 : (0 : Int) ≤ (n : Int) := by omega
  unfold maxLen at hcm
  obtain ⟨c0, c1, c2, c3, c4⟩ := hp.cells.cell
  have c4d : w.drew.cell? ⟨bt, 4, none⟩ = some (.slice (some ⟨g, 0, none⟩) n n) := c4
  have mixed := lays169.mixed
  have hlt := hp.cells.lt
  have HC : Hid (Calls Try.prog 34 #[.map sm] w.drew fun e w' => e = .returned (.map (some w.heap.size)) ∧ TreeC w' bt room S.clock nm sm (.slice (some ⟨g, 0, none⟩) n n) ∧ CrAt w X bt room S w.heap.size sm (.slice (some ⟨g, 0, none⟩) n n) YS YP LS (strip LS) (w'.setCell ⟨bt, 2, none⟩ (.map (some w.heap.size))).heap.size (w'.setCell ⟨bt, 2, none⟩ (.map (some w.heap.size)))) := by
    have hbd : Below w.heap.size w w.drew := below_drew (Below.refl _ w)
    refine (clone_any sm LS w.drew (hp.last.map.below hbd (Nat.le_refl _)) (by omega)).mono (fun e w' hr => ⟨hr.1, hp.cells.below (hbd.trans hr.2.2) hlt, crash_start hp hr.2.1 (hbd.trans hr.2.2)⟩)
  have HG : Hid (Goes (strip LS) S.pend) := hg
  have HF : Hid (∀ l B W, CrAt w X bt room S w.heap.size sm (.slice (some ⟨g, 0, none⟩) n n) YS YP LS l B W → l.length ≤ 200 → Calls Try.prog 22 #[.pointer (some ⟨bt, 0, none⟩)] W fun r W' => r = .returned (.tuple #[]) ∧ StepS w X bt room (S.clock, l, l, []) W') := fun l B W h hl => h.sync hl
  have HA : Hid (∀ l B W ch xb cs T fz, CrAt w X bt room S w.heap.size sm (.slice (some ⟨g, 0, none⟩) n n) YS YP LS l B W → Fits l ch → l.length ≤ 200 → W.heap[xb]? = some (.cells cs T fz) → B ≤ xb → Calls Try.prog 38 #[.map (some w.heap.size), .agg (chCells ch).toArray] W fun r W' => r = .returned (.tuple #[]) ∧ CrAt w X bt room S w.heap.size sm (.slice (some ⟨g, 0, none⟩) n n) YS YP LS (after l ch) W'.heap.size W' ∧ W'.heap[xb]? = some (.cells cs T fz)) :=
    fun l B W ch xb cs T fz h hf hl hx hB => h.apply ch hf hl xb cs T fz hx hB
  have HA2 : Hid (∀ l B W ch, CrAt w X bt room S w.heap.size sm (.slice (some ⟨g, 0, none⟩) n n) YS YP LS l B W → Fits l ch → l.length ≤ 200 → Calls Try.prog 38 #[.map (some w.heap.size), .agg (chCells ch).toArray] W fun r W' => r = .returned (.tuple #[]) ∧ CrAt w X bt room S w.heap.size sm (.slice (some ⟨g, 0, none⟩) n n) YS YP LS (after l ch) W'.heap.size W') := fun l B W ch h hf hl => h.applyN ch hf hl
  have hN : crashN (S.clock, S.now, strip LS, S.pend) many = n := by
    unfold crashN
    show (min (max many 0) (S.pend.length : Int)).toNat = n
    rw [← hnl, hmin]; rfl
  have HN := Lib.hid hN
  clear hN
  have hrow : ∀ l B W, CrAt w X bt room S w.heap.size sm (.slice (some ⟨g, 0, none⟩) n n) YS YP LS l B W → ∀ i (hi : i < S.pend.length) j, j < 5 → W.cell? ⟨g, i * 5 + j, none⟩ = (chCells S.pend[i])[j]? := by
    intro l B W h i hi j hj
    obtain ⟨X', YN', LN', h1, _⟩ := h
    obtain ⟨o, c', hv, _, _, _, hcs⟩ := h1.row.shape (fun _ => rfl)
    obtain ⟨g', hg', hc⟩ := hcs i S.pend[i] (List.getElem?_eq_getElem hi)
    rw [← hnl] at hv
    cases hv
    cases hg'
    exact hc j hj
  have HR := Lib.hid hrow
  have HNL := Lib.hid hnl
  clear hp hg hrow hnl
  go_enter Try.func16, Try.ntmps16
  go_wp2
  go_region_held3 (fun w' => w'.cell? ⟨bt, 4, none⟩ = some (.slice (some ⟨g, 0, none⟩) n n)) (first | assumption) (first | fail)
  go_wp2_with (go_at_call 34; refine (HC.out).mono ?_; rintro e w1 ⟨rfl, hC1, hS1⟩; have d2 := hC1.cell.2.2.1; have f2 := hC1.frozen 2; have HS1 := Lib.hid hS1; clear hS1)
  have hz0 := HS1.out
  clear HC c0 c1 c2 c3 c4 c4d hC1 d2 f2 HS1
  generalize w1.setCell ⟨bt, 2, none⟩ (.map (some w.heap.size)) = W2 at hz0 ⊢
  go_loopw [40] (fun i wr => ∃ k : Nat, k ≤ n ∧ i = .int .i64 k ∧ CrAt w X bt room S w.heap.size sm (.slice (some ⟨g, 0, none⟩) n n) YS YP LS ((S.pend.take k).foldl after (strip LS)) wr.heap.size wr) (fun i _ => n - (intOf i).toNat)
  case atStart => exact ⟨0, Nat.zero_le _, rfl, hz0⟩
  case round =>
    obtain ⟨k, hk, rfl, hcr⟩ := hrel
    by_cases hlt2 : k < n
    · have hkl : k < S.pend.length := by have := HNL.out; omega
      obtain ⟨kd, p, q, s, t, hch⟩ : ∃ (kd : Nat) (p q s : ByteArray) (t : Int), chCells S.pend[k] = [.int .i64 kd, .string p, .string q, .string s, .int .i64 t] := ⟨_, _, _, _, _, rfl⟩
      have hcs : ∀ j, j < 5 → wr.cell? ⟨g, k * 5 + j, none⟩ = ([.int .i64 kd, .string p, .string q, .string s, .int .i64 t] : List Value)[j]? := fun j hj => by rw [HR.out _ _ wr hcr k hkl j hj, hch]
      have e0 : wr.cell? ⟨g, k * 5, none⟩ = some (.int .i64 kd) := hcs 0 (by omega)
      have e1 : wr.cell? ⟨g, k * 5 + 1, none⟩ = some (.string p) := hcs 1 (by omega)
      have e2 : wr.cell? ⟨g, k * 5 + 2, none⟩ = some (.string q) := hcs 2 (by omega)
      have e3 : wr.cell? ⟨g, k * 5 + 3, none⟩ = some (.string s) := hcs 3 (by omega)
      have e4 : wr.cell? ⟨g, k * 5 + 4, none⟩ = some (.int .i64 t) := hcs 4 (by omega)
      have x1 : (wr.alloc (.cells #[.int .i64 kd, .string p, .string q, .string s, .int .i64 t] 72)).drew.heap[wr.heap.size]? = some (.cells #[.int .i64 kd, .string p, .string q, .string s, .int .i64 t] 72 (0, 0)) := World.alloc_heap_new wr _
      have hcr1 := hcr.below (below_drew ((Below.refl wr.heap.size wr).alloc (Nat.le_refl _) (.cells #[.int .i64 kd, .string p, .string q, .string s, .int .i64 t] 72)))
      have hAk := HA.out _ _ _ S.pend[k] wr.heap.size _ _ _ hcr1 (goes_at HG.out k hkl) (goes_len HG.out k) x1 (Nat.le_refl _)
      rw [hch, ← fold_take hkl] at hAk
      have HAk := Lib.hid hAk
      have b2 := hcr1.cell
      have g0 : (wr.alloc (.cells #[.int .i64 kd, .string p, .string q, .string s, .int .i64 t] 72)).drew.cell? ⟨wr.heap.size, 0, none⟩ = some (.int .i64 kd) := by rw [Lib.cell_of_heap x1]; rfl
      have g1 : (wr.alloc (.cells #[.int .i64 kd, .string p, .string q, .string s, .int .i64 t] 72)).drew.cell? ⟨wr.heap.size, 1, none⟩ = some (.string p) := by rw [Lib.cell_of_heap x1]; rfl
      have g2 : (wr.alloc (.cells #[.int .i64 kd, .string p, .string q, .string s, .int .i64 t] 72)).drew.cell? ⟨wr.heap.size, 2, none⟩ = some (.string q) := by rw [Lib.cell_of_heap x1]; rfl
      have g3 : (wr.alloc (.cells #[.int .i64 kd, .string p, .string q, .string s, .int .i64 t] 72)).drew.cell? ⟨wr.heap.size, 3, none⟩ = some (.string s) := by rw [Lib.cell_of_heap x1]; rfl
      have g4 : (wr.alloc (.cells #[.int .i64 kd, .string p, .string q, .string s, .int .i64 t] 72)).drew.cell? ⟨wr.heap.size, 4, none⟩ = some (.int .i64 t) := by rw [Lib.cell_of_heap x1]; rfl
      have hi5 : (k : Int) < (n : Int) := by omega
      have hi6 : (0 : Int) ≤ (k : Int) := by omega
      clear hAk hcs hch hcr hcr1 HA HF HR
      go_wp2
      go_region_held3 (fun w' => w'.cell? ⟨bt, 2, none⟩ = some (.map (some w.heap.size)) ∧ w'.cell? ⟨wr.heap.size, 0, none⟩ = some (.int .i64 kd) ∧ w'.cell? ⟨wr.heap.size, 1, none⟩ = some (.string p) ∧ w'.cell? ⟨wr.heap.size, 2, none⟩ = some (.string q) ∧ w'.cell? ⟨wr.heap.size, 3, none⟩ = some (.string s) ∧ w'.cell? ⟨wr.heap.size, 4, none⟩ = some (.int .i64 t))
        (first | exact ⟨by assumption, by assumption, by assumption, by assumption, by assumption, by assumption⟩)
        (first | (go_at_call 38; refine (HAk.out).mono ?_; rintro r w3 ⟨rfl, hcr3, hx3⟩; have b3 := hcr3.cell; have j0 : w3.cell? ⟨wr.heap.size, 0, none⟩ = some (.int .i64 kd) := (by rw [Lib.cell_of_heap hx3]; rfl); have j1 : w3.cell? ⟨wr.heap.size, 1, none⟩ = some (.string p) := (by rw [Lib.cell_of_heap hx3]; rfl); have j2 : w3.cell? ⟨wr.heap.size, 2, none⟩ = some (.string q) := (by rw [Lib.cell_of_heap hx3]; rfl); have j3 : w3.cell? ⟨wr.heap.size, 3, none⟩ = some (.string s) := (by rw [Lib.cell_of_heap hx3]; rfl); have j4 : w3.cell? ⟨wr.heap.size, 4, none⟩ = some (.int .i64 t) := (by rw [Lib.cell_of_heap hx3]; rfl)))
      go_wp2_with fail
      go_roundw
      case rel => exact ⟨k + 1, hlt2, by go_num, hcr3⟩
      case measure => simp [intOf]; omega
    · have hkm : k = n := by omega
      rw [hkm] at hcr
      have hll := goes_len HG.out n
      have hget : S.pend[n]? = none := List.getElem?_eq_none (by have := HNL.out; omega)
      have HL2 := Lib.hid (crash_none (part := part) HN.out (.inl hget))
      obtain ⟨lo, hlo⟩ : ∃ lo, lo = (S.pend.take n).foldl after (strip LS) := ⟨_, rfl⟩
      have HL3 : Hid (crashL (S.clock, S.now, strip LS, S.pend) many part = lo) := by show _ = _; rw [HL2.out, hlo]
      rw [← hlo] at hcr hll
      clear hget HA HA2 HR HG HN HL2 hlo
      go_wp2_with (go_at_call 22; refine (HF.out _ _ _ (by assumption) (by assumption)).mono ?_; rintro e w9 ⟨rfl, hst⟩)
      go_end0
      exact ⟨rfl, by unfold opC; rw [HL3.out]; exact hst⟩

set_option maxRecDepth 100000 in
set_option maxHeartbeats 4000000 in
theorem crash_nil (bt : Nat) (X : Nat → Prop) (many part : Int) (room : Int) (S : St) (nm sm : Option Nat) (YN YS YP : Nat → Prop) (LN LS : FVs) (w : World) (hp : TreeP w X bt room S.clock nm sm (.slice none 0 0) YN YS YP LN LS S.pend) (hnl : 0 = S.pend.length) (hlS : LS.length ≤ 200) (hg : Goes (strip LS) S.pend)
    (hmin : min (max many 0) 0 = (0 : Int)) (_hp2 : part < 9223372036854775808) :
    Calls Try.prog 16 #[.pointer (some ⟨bt, 0, none⟩), .int .i64 many, .int .i64 part] w fun r w' => r = .returned (.tuple #[]) ∧ StepS w X bt room (opC (S.clock, S.now, strip LS, S.pend) many part) w' := by
  obtain ⟨c0, c1, c2, c3, c4⟩ := hp.cells.cell
  have c4d : w.drew.cell? ⟨bt, 4, none⟩ = some (.slice none 0 0) := c4
  have mixed := lays169.mixed
  have hlt := hp.cells.lt
  have HC : Hid (Calls Try.prog 34 #[.map sm] w.drew fun e w' => e = .returned (.map (some w.heap.size)) ∧ TreeC w' bt room S.clock nm sm (.slice none 0 0) ∧ CrAt w X bt room S w.heap.size sm (.slice none 0 0) YS YP LS (strip LS) (w'.setCell ⟨bt, 2, none⟩ (.map (some w.heap.size))).heap.size (w'.setCell ⟨bt, 2, none⟩ (.map (some w.heap.size)))) := by
    have hbd : Below w.heap.size w w.drew := below_drew (Below.refl _ w)
    refine (clone_any sm LS w.drew (hp.last.map.below hbd (Nat.le_refl _)) (by omega)).mono (fun e w' hr => ⟨hr.1, hp.cells.below (hbd.trans hr.2.2) hlt, crash_start hp hr.2.1 (hbd.trans hr.2.2)⟩)
  have HG : Hid (Goes (strip LS) S.pend) := hg
  have HF : Hid (∀ l B W, CrAt w X bt room S w.heap.size sm (.slice none 0 0) YS YP LS l B W → l.length ≤ 200 → Calls Try.prog 22 #[.pointer (some ⟨bt, 0, none⟩)] W fun r W' => r = .returned (.tuple #[]) ∧ StepS w X bt room (S.clock, l, l, []) W') := fun l B W h hl => h.sync hl
  have HA : Hid (∀ l B W ch xb cs T fz, CrAt w X bt room S w.heap.size sm (.slice none 0 0) YS YP LS l B W → Fits l ch → l.length ≤ 200 → W.heap[xb]? = some (.cells cs T fz) → B ≤ xb → Calls Try.prog 38 #[.map (some w.heap.size), .agg (chCells ch).toArray] W fun r W' => r = .returned (.tuple #[]) ∧ CrAt w X bt room S w.heap.size sm (.slice none 0 0) YS YP LS (after l ch) W'.heap.size W' ∧ W'.heap[xb]? = some (.cells cs T fz)) :=
    fun l B W ch xb cs T fz h hf hl hx hB => h.apply ch hf hl xb cs T fz hx hB
  have HA2 : Hid (∀ l B W ch, CrAt w X bt room S w.heap.size sm (.slice none 0 0) YS YP LS l B W → Fits l ch → l.length ≤ 200 → Calls Try.prog 38 #[.map (some w.heap.size), .agg (chCells ch).toArray] W fun r W' => r = .returned (.tuple #[]) ∧ CrAt w X bt room S w.heap.size sm (.slice none 0 0) YS YP LS (after l ch) W'.heap.size W') := fun l B W ch h hf hl => h.applyN ch hf hl
  have hN : crashN (S.clock, S.now, strip LS, S.pend) many = 0 := by
    unfold crashN
    show (min (max many 0) (S.pend.length : Int)).toNat = 0
    rw [← hnl]; show (min (max many 0) 0).toNat = 0; rw [hmin]; rfl
  have HN := Lib.hid hN
  clear hN
  have HNL := Lib.hid hnl
  clear hp hg hnl
  go_enter Try.func16, Try.ntmps16
  go_wp2
  go_region_held3 (fun w' => w'.cell? ⟨bt, 4, none⟩ = some (.slice none 0 0)) (first | assumption) (first | fail)
  go_wp2_with (go_at_call 34; refine (HC.out).mono ?_; rintro e w1 ⟨rfl, hC1, hS1⟩; have d2 := hC1.cell.2.2.1; have f2 := hC1.frozen 2; have HS1 := Lib.hid hS1; clear hS1)
  have hz0 := HS1.out
  clear HC c0 c1 c2 c3 c4 c4d hC1 d2 f2 HS1
  generalize w1.setCell ⟨bt, 2, none⟩ (.map (some w.heap.size)) = W2 at hz0 ⊢
  go_loopw [40] (fun i wr => ∃ k : Nat, k ≤ 0 ∧ i = .int .i64 k ∧ CrAt w X bt room S w.heap.size sm (.slice none 0 0) YS YP LS ((S.pend.take k).foldl after (strip LS)) wr.heap.size wr) (fun i _ => 0 - (intOf i).toNat)
  case atStart => exact ⟨0, Nat.zero_le _, rfl, hz0⟩
  case round =>
    obtain ⟨k, hk, rfl, hcr⟩ := hrel
    have hkm : k = 0 := by omega
    rw [hkm] at hcr
    have hll := goes_len HG.out 0
    have hget : S.pend[0]? = none := List.getElem?_eq_none (by have := HNL.out; omega)
    have HL2 := Lib.hid (crash_none (part := part) HN.out (.inl hget))
    obtain ⟨lo, hlo⟩ : ∃ lo, lo = (S.pend.take 0).foldl after (strip LS) := ⟨_, rfl⟩
    have HL3 : Hid (crashL (S.clock, S.now, strip LS, S.pend) many part = lo) := by show _ = _; rw [HL2.out, hlo]
    rw [← hlo] at hcr hll
    clear hget HA HA2 HG HN HL2 hlo
    go_wp2_with (go_at_call 22; refine (HF.out _ _ _ (by assumption) (by assumption)).mono ?_; rintro e w9 ⟨rfl, hst⟩)
    go_end0
    exact ⟨rfl, by unfold opC; rw [HL3.out]; exact hst⟩

/-- What Crash leaves of any tree. -/
theorem crash_tree (bt : Nat) (X : Nat → Prop) (room : Int) (S : St) (many part : Int) (w : World) (h : TreeS w X bt room S) (hl : S.last.length ≤ 200) (hg : Goes S.last S.pend) (hp2 : part < 9223372036854775808) :
    Calls Try.prog 16 #[.pointer (some ⟨bt, 0, none⟩), .int .i64 many, .int .i64 part] w fun r w' => r = .returned (.tuple #[]) ∧ StepS w X bt room (opC S many part) w' := by
  obtain ⟨nm, sm, pv, YN, YS, YP, LN, LS, hp, h1, h2⟩ := h
  obtain ⟨cl, nw, la, pe⟩ := S
  have h2' : strip LS = la := h2
  subst h2'
  have hlS : LS.length ≤ 200 := by rw [← strip_length]; exact hl
  obtain ⟨o, c, rfl, q1, q2, q3, q4⟩ := hp.row.shape (fun _ => rfl)
  cases o with
  | none =>
    have hp0 : pe = [] := by
      cases pe with
      | nil => rfl
      | cons x r => obtain ⟨g, hg, _⟩ := q4 0 x rfl; cases hg
    subst hp0
    have hc0 : c = 0 := by
      rcases hp.row.1.2 with ⟨hv, _⟩ | ⟨g', cap, cur, hv, _⟩
      · simpa using hv
      · cases hv
    subst hc0
    exact crash_nil bt X many part room (cl, nw, strip LS, []) nm sm YN YS YP LN LS w hp rfl hlS hg (by omega) hp2
  | some a =>
    obtain ⟨g, rfl, _⟩ := q3 a rfl
    obtain ⟨m, hm⟩ : ∃ m : Nat, min (max many 0) (pe.length : Int) = (m : Int) := ⟨(min (max many 0) (pe.length : Int)).toNat, by omega⟩
    by_cases hmc : m < c
    · exact crash_some bt X g c pe.length many part room (cl, nw, strip LS, pe) nm sm YN YS YP LN LS w hp rfl hlS hg q1 q2 m hmc hm hp2
    · have e1 : m = c := by
        have hq1 : pe.length ≤ c := q1
        omega
      have e2 : pe.length = c := by
        have hq1 : pe.length ≤ c := q1
        omega
      subst e2
      exact crash_full bt X g pe.length many part room (cl, nw, strip LS, pe) nm sm YN YS YP LN LS w hp rfl hlS hg q2 (by rw [hm, e1]) hp2

end Go.Proofs.Ytginlknlkbhgaaa
