/-
  What the document's Write and Append answer, and what they leave of its tree.
-/
import Derived.Deep.RegionHeld3
import Derived.Deep.QuietTactic
import Derived.BigQuiet
import Derived.Test.YtginlknlkbhgaaaFRef5
import Derived.Test.YtginlknlkbhgaaaFInv
import Derived.Test.YtginlknlkbhgaaaFRefPath
namespace Go.Proofs.Ytginlknlkbhgaaa
open Go.RowKit Go.Shelf Go.Maps

theorem rpath_b {p : ByteArray} {b : Bool} (h : pathB p.data.toList = b) (w : World) : Calls Try.prog 57 #[.string p] w fun e w' => e = .returned (.bool b) ∧ w = w' := by
  have := refPath_any p w
  rwa [h] at this

set_option maxRecDepth 100000 in
set_option maxHeartbeats 1000000 in
theorem rwrite_arg (bm : Nat) (k : Int) (p s : ByteArray) (w : World) (h : pathB p.data.toList = false) :
    Calls Try.prog 55 #[.pointer (some ⟨bm, 0, none⟩), .int .i64 k, .string p, .string s] w fun r w' => r = .returned (.int .i64 1) ∧ w = w' := by
  have HP := Lib.hid (rpath_b h w)
  clear h
  go_enter Try.func55, Try.ntmps55
  go_wp2_with (go_at_call 57; refine (HP.out).mono ?_; rintro e w1 ⟨rfl, rfl⟩)
  go_ret
  exact ⟨rfl, rfl⟩

/-- What Write finds at a bad end, or 0. -/
def rwC (room : Int) (now l' : Fs) (p nt : BS) : Int :=
  if 16777216 < nt.length then 3 else if blocked now p = true then 5 else if room < (used l' : Int) then 6 else if 200 < l'.length then 6 else 0

set_option maxRecDepth 100000 in
set_option maxHeartbeats 2000000 in
theorem rwrite_long (bm : Nat) (X : Nat → Prop) (k : Nat) (p s nt : ByteArray) (room : Int) (S : St) (w : World) (h : RefS w X bm room S) (hf : RFits S (k, p.data.toList, s.data.toList, S.clock + 1)) (hk : k ≤ 1) (hpb : pathB p.data.toList = true) (hpl : ∀ y ∈ S.now, y.1.length ≤ 1048576) (hps : p.size ≤ maxLen) (hu : used (after S.now (k, p.data.toList, s.data.toList, S.clock + 1)) < 4611686018427387904)
    (hnt : look (after S.now (k, p.data.toList, s.data.toList, S.clock + 1)) p.data.toList = some (nt.data.toList, S.clock + 1)) (e1 : 16777216 < nt.size) :
    Calls Try.prog 55 #[.pointer (some ⟨bm, 0, none⟩), .int .i64 (k + 1 : Nat), .string p, .string s] w fun r w' => r = .returned (.int .i64 3) ∧ RStep w X bm room S w' := by
  have hch : rcCells (k, p.data.toList, s.data.toList, S.clock + 1) = [.int .i64 (k + 1 : Nat), .string p, .string s, .int .i64 (S.clock + 1)] := by
    unfold rcCells
    simp only [Ch.kind, Ch.path, Ch.arg, Ch.time]
    rw [txt_toList, txt_toList, if_pos hk]
  have HCh : Hid (∀ w1, Below w.heap.size w w1 → Calls Try.prog 56 #[.pointer (some ⟨bm, 0, none⟩), .agg #[.int .i64 (k + 1 : Nat), .string p, .string s, .int .i64 (S.clock + 1)]] w1 fun r w' => r = .returned (.tuple #[]) ∧ RStep w X bm room (doSt S k p.data.toList s.data.toList) w') := by
    intro w1 hb
    exact (rchange_any bm X room S _ _ p s _ hch w1 (h.below hb) hf).mono (fun r w' hr => ⟨hr.1, RStep.behind hb hr.2⟩)
  have HS : Hid (∀ w', Below w.heap.size w w' → RStep w X bm room S w') := fun w' hb => RStep.same h hb
  obtain ⟨P, vL, vS, vC, hp⟩ := h
  obtain ⟨W1, hW1⟩ : ∃ W1, W1 = w.alloc (.cells #[.int .i64 (k + 1 : Nat), .string p, .string s, .int .i64 (S.clock + 1)] 97) := ⟨_, rfl⟩
  have hb1 : Below w.heap.size w W1 := by rw [hW1]; exact (Below.refl _ w).alloc (Nat.le_refl _) _
  have hs1 : W1.heap.size = w.heap.size + 1 := by rw [hW1]; simp
  have hx1 : W1.heap[w.heap.size]? = some (.cells #[.int .i64 (k + 1 : Nat), .string p, .string s, .int .i64 (S.clock + 1)] 97 (0, 0)) := by rw [hW1]; exact World.alloc_heap_new w _
  have hp1 := hp.below hb1
  have hbl : bm < w.heap.size := hp.lt _ hp.xb
  have HX : Hid (∀ wq, Below W1.heap.size W1 wq → wq.cell? ⟨w.heap.size, 0, none⟩ = some (.int .i64 (k + 1 : Nat)) ∧ wq.cell? ⟨w.heap.size, 1, none⟩ = some (.string p) ∧ wq.cell? ⟨w.heap.size, 2, none⟩ = some (.string s) ∧ wq.cell? ⟨w.heap.size, 3, none⟩ = some (.int .i64 (S.clock + 1)) ∧ wq.cell? ⟨bm, 2, none⟩ = some vL ∧ wq.cell? ⟨bm, 0, none⟩ = some (.int .i64 room)) := by
    intro wq hb
    have hx := (hb.block _ (by omega)).trans hx1
    refine ⟨?_, ?_, ?_, ?_, (hp1.cells.below hb (by omega)).cell.2.2.1, (hp1.cells.below hb (by omega)).cell.1⟩ <;> (rw [Lib.cell_of_heap hx]; rfl)
  obtain ⟨L', hL'⟩ : ∃ L', L' = after S.now (k, p.data.toList, s.data.toList, S.clock + 1) := ⟨_, rfl⟩
  have hll := after_len S.now (k, p.data.toList, s.data.toList, S.clock + 1)
  rw [← hL'] at hnt hu hll
  have hfl := hf.files
  have hln : L'.length < 1073741824 := by omega
  have HA : Hid (∀ wq, Below W1.heap.size W1 wq → Calls Try.prog 60 #[vL, .agg #[.int .i64 (k + 1 : Nat), .string p, .string s, .int .i64 (S.clock + 1)]] wq fun e w' => ∃ g cc, e = .returned (.slice (some ⟨g, 0, none⟩) L'.length cc) ∧ Below W1.heap.size W1 w' ∧ RowC w' g L' ∧ Hid (∃ P', RowF w' P' (.slice (some ⟨g, 0, none⟩) L'.length cc) L')) := by
    intro wq hb
    have := after_any vL P S.now _ wq (RowR.below hp1.now hb (Nat.le_refl _)) (by omega) hf.kind (by have := hf.arg; omega) hf.texts
    rw [hch, ← hL'] at this
    refine this.mono ?_
    rintro e w' ⟨v', rfl, hr, hb'⟩
    rcases RowR.cells hr with ⟨hl0, _⟩ | ⟨g, cc, hv, _, hg, hc⟩
    · rw [hl0] at hnt; cases hnt
    · subst hv
      exact ⟨g, cc, rfl, hb.trans (hb'.mono hb.size), hc, ⟨_, hr⟩⟩
  have HF : Hid (∀ w3 g cc, Hid (∃ P', RowF w3 P' (.slice (some ⟨g, 0, none⟩) L'.length cc) L') → RowC w3 g L' → Calls Try.prog 49 #[.slice (some ⟨g, 0, none⟩) L'.length cc, .string p] w3 fun e w' => ∃ j : Nat, e = .returned (.int .i64 j) ∧ w3.cell? ⟨g, j * 3 + 1, none⟩ = some (.string nt) ∧ j < L'.length ∧ w3 = w') := by
    intro w3 g cc hr hc
    obtain ⟨P', hr⟩ := hr.out
    refine (find_hit _ P' L' p w3 hr hln hnt).mono ?_
    rintro e w' ⟨j, rfl, hj, rfl⟩
    have h1 := (hc j _ hj).2.1
    rw [txt_toList] at h1
    exact ⟨j, rfl, h1, (List.getElem?_eq_some_iff.1 hj).1, rfl⟩
  have HB : Hid (∀ w3, Below W1.heap.size W1 w3 → Calls Try.prog 58 #[vL, .string p] w3 fun e w' => e = .returned (.bool (blocked S.now p.data.toList)) ∧ w3 = w') := fun w3 hb =>
    rblk_any vL P S.now p w3 (RowR.below hp1.now hb (Nat.le_refl _)) (by omega) hps hpl
  have HU : Hid (∀ w3 g cc, Hid (∃ P', RowF w3 P' (.slice (some ⟨g, 0, none⟩) L'.length cc) L') → Calls Try.prog 61 #[.slice (some ⟨g, 0, none⟩) L'.length cc] w3 fun e w' => e = .returned (.int .i64 (used L' : Nat)) ∧ w3 = w') := by
    intro w3 g cc hr
    obtain ⟨P', hr⟩ := hr.out
    exact rused_any _ P' L' w3 hr hln hu
  have HP := Lib.hid (rpath_b hpb w)
  have c1 := hp.cells.cell.2.1
  have hcl0 := hf.clock0
  have hcl1 := hf.clock1
  have HB1 := Lib.hid hb1
  have hsz : W1.heap.size = w.heap.size + 1 := hs1
  have e1' : (16777216 : Int) < (nt.size : Int) := by omega
  obtain ⟨cl, hcl⟩ : ∃ cl, cl = S.clock := ⟨_, rfl⟩
  obtain ⟨U, hU⟩ : ∃ U, U = used L' := ⟨_, rfl⟩
  obtain ⟨kd, hkd⟩ : ∃ kd : Int, kd = ((k + 1 : Nat) : Int) := ⟨_, rfl⟩
  rw [← hcl] at hW1 HCh HX HA c1 hcl0 hcl1
  rw [← hkd] at hW1 HCh HX HA
  rw [← hkd]
  rw [← hU] at HU
  have hb1d := below_drew (Below.refl W1.heap.size W1)
  obtain ⟨q0, q1, q2, q3, q4, _⟩ := HX.out _ hb1d
  have mixed := lays169.mixed
  have HL := Lib.hid hL'
  clear hp hp1 hf hx1 hs1 hb1 hch hL' hll hfl hnt hu hcl hU hkd hpb hpl hps hk
  subst hW1
  go_enter Try.func55, Try.ntmps55
  go_wp2_with (go_at_call 57; refine (HP.out).mono ?_; rintro e w1 ⟨rfl, rfl⟩)
  go_region_held3 (fun w' => w'.cell? ⟨w.heap.size, 0, none⟩ = some (.int .i64 kd) ∧ w'.cell? ⟨w.heap.size, 1, none⟩ = some (.string p) ∧ w'.cell? ⟨w.heap.size, 2, none⟩ = some (.string s) ∧ w'.cell? ⟨w.heap.size, 3, none⟩ = some (.int .i64 (cl + 1)) ∧ w'.cell? ⟨bm, 2, none⟩ = some vL)
    (first | exact ⟨by assumption, by assumption, by assumption, by assumption, by assumption⟩)
    (first | (go_at_call 60; refine (HA.out _ (by assumption)).mono ?_; rintro r w3 ⟨g, cc, rfl, hb3, hc3, HR3⟩; obtain ⟨k0, k1, k2, k3, k4, k5⟩ := HX.out _ hb3))
  clear HA q0 q1 q2 q3 q4 HP c1
  go_wp2_with (first
    | (go_at_call 49; refine (HF.out _ _ _ HR3 hc3).mono ?_; rintro e w4 ⟨j, rfl, hj, hjl, rfl⟩; have hi0 : ¬ ((j : Int) < 0) := (by omega); have hi1 : (0 : Int) ≤ (j : Int) := (by omega); have hi2 : (j : Int) < (L'.length : Int) := (by omega))
    | (go_at_call 58; refine (HB.out _ (by assumption)).mono ?_; rintro e w4 ⟨rfl, rfl⟩))
  go_ret
  exact ⟨rfl, HS.out _ (HB1.out.trans (hb3.mono (by omega)))⟩

set_option maxRecDepth 100000 in
set_option maxHeartbeats 2000000 in
theorem rwrite_there (bm : Nat) (X : Nat → Prop) (k : Nat) (p s nt : ByteArray) (room : Int) (S : St) (w : World) (h : RefS w X bm room S) (hf : RFits S (k, p.data.toList, s.data.toList, S.clock + 1)) (hk : k ≤ 1) (hpb : pathB p.data.toList = true) (hpl : ∀ y ∈ S.now, y.1.length ≤ 1048576) (hps : p.size ≤ maxLen) (hu : used (after S.now (k, p.data.toList, s.data.toList, S.clock + 1)) < 4611686018427387904)
    (hnt : look (after S.now (k, p.data.toList, s.data.toList, S.clock + 1)) p.data.toList = some (nt.data.toList, S.clock + 1)) (e1 : ¬ 16777216 < nt.size) (e2 : blocked S.now p.data.toList = true) :
    Calls Try.prog 55 #[.pointer (some ⟨bm, 0, none⟩), .int .i64 (k + 1 : Nat), .string p, .string s] w fun r w' => r = .returned (.int .i64 5) ∧ RStep w X bm room S w' := by
  have hch : rcCells (k, p.data.toList, s.data.toList, S.clock + 1) = [.int .i64 (k + 1 : Nat), .string p, .string s, .int .i64 (S.clock + 1)] := by
    unfold rcCells
    simp only [Ch.kind, Ch.path, Ch.arg, Ch.time]
    rw [txt_toList, txt_toList, if_pos hk]
  have HCh : Hid (∀ w1, Below w.heap.size w w1 → Calls Try.prog 56 #[.pointer (some ⟨bm, 0, none⟩), .agg #[.int .i64 (k + 1 : Nat), .string p, .string s, .int .i64 (S.clock + 1)]] w1 fun r w' => r = .returned (.tuple #[]) ∧ RStep w X bm room (doSt S k p.data.toList s.data.toList) w') := by
    intro w1 hb
    exact (rchange_any bm X room S _ _ p s _ hch w1 (h.below hb) hf).mono (fun r w' hr => ⟨hr.1, RStep.behind hb hr.2⟩)
  have HS : Hid (∀ w', Below w.heap.size w w' → RStep w X bm room S w') := fun w' hb => RStep.same h hb
  obtain ⟨P, vL, vS, vC, hp⟩ := h
  obtain ⟨W1, hW1⟩ : ∃ W1, W1 = w.alloc (.cells #[.int .i64 (k + 1 : Nat), .string p, .string s, .int .i64 (S.clock + 1)] 97) := ⟨_, rfl⟩
  have hb1 : Below w.heap.size w W1 := by rw [hW1]; exact (Below.refl _ w).alloc (Nat.le_refl _) _
  have hs1 : W1.heap.size = w.heap.size + 1 := by rw [hW1]; simp
  have hx1 : W1.heap[w.heap.size]? = some (.cells #[.int .i64 (k + 1 : Nat), .string p, .string s, .int .i64 (S.clock + 1)] 97 (0, 0)) := by rw [hW1]; exact World.alloc_heap_new w _
  have hp1 := hp.below hb1
  have hbl : bm < w.heap.size := hp.lt _ hp.xb
  have HX : Hid (∀ wq, Below W1.heap.size W1 wq → wq.cell? ⟨w.heap.size, 0, none⟩ = some (.int .i64 (k + 1 : Nat)) ∧ wq.cell? ⟨w.heap.size, 1, none⟩ = some (.string p) ∧ wq.cell? ⟨w.heap.size, 2, none⟩ = some (.string s) ∧ wq.cell? ⟨w.heap.size, 3, none⟩ = some (.int .i64 (S.clock + 1)) ∧ wq.cell? ⟨bm, 2, none⟩ = some vL ∧ wq.cell? ⟨bm, 0, none⟩ = some (.int .i64 room)) := by
    intro wq hb
    have hx := (hb.block _ (by omega)).trans hx1
    refine ⟨?_, ?_, ?_, ?_, (hp1.cells.below hb (by omega)).cell.2.2.1, (hp1.cells.below hb (by omega)).cell.1⟩ <;> (rw [Lib.cell_of_heap hx]; rfl)
  obtain ⟨L', hL'⟩ : ∃ L', L' = after S.now (k, p.data.toList, s.data.toList, S.clock + 1) := ⟨_, rfl⟩
  have hll := after_len S.now (k, p.data.toList, s.data.toList, S.clock + 1)
  rw [← hL'] at hnt hu hll
  have hfl := hf.files
  have hln : L'.length < 1073741824 := by omega
  have HA : Hid (∀ wq, Below W1.heap.size W1 wq → Calls Try.prog 60 #[vL, .agg #[.int .i64 (k + 1 : Nat), .string p, .string s, .int .i64 (S.clock + 1)]] wq fun e w' => ∃ g cc, e = .returned (.slice (some ⟨g, 0, none⟩) L'.length cc) ∧ Below W1.heap.size W1 w' ∧ RowC w' g L' ∧ Hid (∃ P', RowF w' P' (.slice (some ⟨g, 0, none⟩) L'.length cc) L')) := by
    intro wq hb
    have := after_any vL P S.now _ wq (RowR.below hp1.now hb (Nat.le_refl _)) (by omega) hf.kind (by have := hf.arg; omega) hf.texts
    rw [hch, ← hL'] at this
    refine this.mono ?_
    rintro e w' ⟨v', rfl, hr, hb'⟩
    rcases RowR.cells hr with ⟨hl0, _⟩ | ⟨g, cc, hv, _, hg, hc⟩
    · rw [hl0] at hnt; cases hnt
    · subst hv
      exact ⟨g, cc, rfl, hb.trans (hb'.mono hb.size), hc, ⟨_, hr⟩⟩
  have HF : Hid (∀ w3 g cc, Hid (∃ P', RowF w3 P' (.slice (some ⟨g, 0, none⟩) L'.length cc) L') → RowC w3 g L' → Calls Try.prog 49 #[.slice (some ⟨g, 0, none⟩) L'.length cc, .string p] w3 fun e w' => ∃ j : Nat, e = .returned (.int .i64 j) ∧ w3.cell? ⟨g, j * 3 + 1, none⟩ = some (.string nt) ∧ j < L'.length ∧ w3 = w') := by
    intro w3 g cc hr hc
    obtain ⟨P', hr⟩ := hr.out
    refine (find_hit _ P' L' p w3 hr hln hnt).mono ?_
    rintro e w' ⟨j, rfl, hj, rfl⟩
    have h1 := (hc j _ hj).2.1
    rw [txt_toList] at h1
    exact ⟨j, rfl, h1, (List.getElem?_eq_some_iff.1 hj).1, rfl⟩
  have HB : Hid (∀ w3, Below W1.heap.size W1 w3 → Calls Try.prog 58 #[vL, .string p] w3 fun e w' => e = .returned (.bool (blocked S.now p.data.toList)) ∧ w3 = w') := fun w3 hb =>
    rblk_any vL P S.now p w3 (RowR.below hp1.now hb (Nat.le_refl _)) (by omega) hps hpl
  have HU : Hid (∀ w3 g cc, Hid (∃ P', RowF w3 P' (.slice (some ⟨g, 0, none⟩) L'.length cc) L') → Calls Try.prog 61 #[.slice (some ⟨g, 0, none⟩) L'.length cc] w3 fun e w' => e = .returned (.int .i64 (used L' : Nat)) ∧ w3 = w') := by
    intro w3 g cc hr
    obtain ⟨P', hr⟩ := hr.out
    exact rused_any _ P' L' w3 hr hln hu
  rw [e2] at HB
  have HP := Lib.hid (rpath_b hpb w)
  have c1 := hp.cells.cell.2.1
  have hcl0 := hf.clock0
  have hcl1 := hf.clock1
  have HB1 := Lib.hid hb1
  have hsz : W1.heap.size = w.heap.size + 1 := hs1
  have e1' : ¬ (16777216 : Int) < (nt.size : Int) := by omega
  obtain ⟨cl, hcl⟩ : ∃ cl, cl = S.clock := ⟨_, rfl⟩
  obtain ⟨U, hU⟩ : ∃ U, U = used L' := ⟨_, rfl⟩
  obtain ⟨kd, hkd⟩ : ∃ kd : Int, kd = ((k + 1 : Nat) : Int) := ⟨_, rfl⟩
  rw [← hcl] at hW1 HCh HX HA c1 hcl0 hcl1
  rw [← hkd] at hW1 HCh HX HA
  rw [← hkd]
  rw [← hU] at HU
  have hb1d := below_drew (Below.refl W1.heap.size W1)
  obtain ⟨q0, q1, q2, q3, q4, _⟩ := HX.out _ hb1d
  have mixed := lays169.mixed
  have HL := Lib.hid hL'
  clear hp hp1 hf hx1 hs1 hb1 hch hL' hll hfl hnt hu hcl hU hkd hpb hpl hps hk e2
  subst hW1
  go_enter Try.func55, Try.ntmps55
  go_wp2_with (go_at_call 57; refine (HP.out).mono ?_; rintro e w1 ⟨rfl, rfl⟩)
  go_region_held3 (fun w' => w'.cell? ⟨w.heap.size, 0, none⟩ = some (.int .i64 kd) ∧ w'.cell? ⟨w.heap.size, 1, none⟩ = some (.string p) ∧ w'.cell? ⟨w.heap.size, 2, none⟩ = some (.string s) ∧ w'.cell? ⟨w.heap.size, 3, none⟩ = some (.int .i64 (cl + 1)) ∧ w'.cell? ⟨bm, 2, none⟩ = some vL)
    (first | exact ⟨by assumption, by assumption, by assumption, by assumption, by assumption⟩)
    (first | (go_at_call 60; refine (HA.out _ (by assumption)).mono ?_; rintro r w3 ⟨g, cc, rfl, hb3, hc3, HR3⟩; obtain ⟨k0, k1, k2, k3, k4, k5⟩ := HX.out _ hb3))
  clear HA q0 q1 q2 q3 q4 HP c1
  go_wp2_with (first
    | (go_at_call 49; refine (HF.out _ _ _ HR3 hc3).mono ?_; rintro e w4 ⟨j, rfl, hj, hjl, rfl⟩; have hi0 : ¬ ((j : Int) < 0) := (by omega); have hi1 : (0 : Int) ≤ (j : Int) := (by omega); have hi2 : (j : Int) < (L'.length : Int) := (by omega))
    | (go_at_call 58; refine (HB.out _ (by assumption)).mono ?_; rintro e w4 ⟨rfl, rfl⟩))
  go_ret
  exact ⟨rfl, HS.out _ (HB1.out.trans (hb3.mono (by omega)))⟩

set_option maxRecDepth 100000 in
set_option maxHeartbeats 2000000 in
theorem rwrite_full1 (bm : Nat) (X : Nat → Prop) (k : Nat) (p s nt : ByteArray) (room : Int) (S : St) (w : World) (h : RefS w X bm room S) (hf : RFits S (k, p.data.toList, s.data.toList, S.clock + 1)) (hk : k ≤ 1) (hpb : pathB p.data.toList = true) (hpl : ∀ y ∈ S.now, y.1.length ≤ 1048576) (hps : p.size ≤ maxLen) (hu : used (after S.now (k, p.data.toList, s.data.toList, S.clock + 1)) < 4611686018427387904)
    (hnt : look (after S.now (k, p.data.toList, s.data.toList, S.clock + 1)) p.data.toList = some (nt.data.toList, S.clock + 1)) (e1 : ¬ 16777216 < nt.size) (e2 : blocked S.now p.data.toList = false) (e3 : room < (used (after S.now (k, p.data.toList, s.data.toList, S.clock + 1)) : Int)) :
    Calls Try.prog 55 #[.pointer (some ⟨bm, 0, none⟩), .int .i64 (k + 1 : Nat), .string p, .string s] w fun r w' => r = .returned (.int .i64 6) ∧ RStep w X bm room S w' := by
  have hch : rcCells (k, p.data.toList, s.data.toList, S.clock + 1) = [.int .i64 (k + 1 : Nat), .string p, .string s, .int .i64 (S.clock + 1)] := by
    unfold rcCells
    simp only [Ch.kind, Ch.path, Ch.arg, Ch.time]
    rw [txt_toList, txt_toList, if_pos hk]
  have HCh : Hid (∀ w1, Below w.heap.size w w1 → Calls Try.prog 56 #[.pointer (some ⟨bm, 0, none⟩), .agg #[.int .i64 (k + 1 : Nat), .string p, .string s, .int .i64 (S.clock + 1)]] w1 fun r w' => r = .returned (.tuple #[]) ∧ RStep w X bm room (doSt S k p.data.toList s.data.toList) w') := by
    intro w1 hb
    exact (rchange_any bm X room S _ _ p s _ hch w1 (h.below hb) hf).mono (fun r w' hr => ⟨hr.1, RStep.behind hb hr.2⟩)
  have HS : Hid (∀ w', Below w.heap.size w w' → RStep w X bm room S w') := fun w' hb => RStep.same h hb
  obtain ⟨P, vL, vS, vC, hp⟩ := h
  obtain ⟨W1, hW1⟩ : ∃ W1, W1 = w.alloc (.cells #[.int .i64 (k + 1 : Nat), .string p, .string s, .int .i64 (S.clock + 1)] 97) := ⟨_, rfl⟩
  have hb1 : Below w.heap.size w W1 := by rw [hW1]; exact (Below.refl _ w).alloc (Nat.le_refl _) _
  have hs1 : W1.heap.size = w.heap.size + 1 := by rw [hW1]; simp
  have hx1 : W1.heap[w.heap.size]? = some (.cells #[.int .i64 (k + 1 : Nat), .string p, .string s, .int .i64 (S.clock + 1)] 97 (0, 0)) := by rw [hW1]; exact World.alloc_heap_new w _
  have hp1 := hp.below hb1
  have hbl : bm < w.heap.size := hp.lt _ hp.xb
  have HX : Hid (∀ wq, Below W1.heap.size W1 wq → wq.cell? ⟨w.heap.size, 0, none⟩ = some (.int .i64 (k + 1 : Nat)) ∧ wq.cell? ⟨w.heap.size, 1, none⟩ = some (.string p) ∧ wq.cell? ⟨w.heap.size, 2, none⟩ = some (.string s) ∧ wq.cell? ⟨w.heap.size, 3, none⟩ = some (.int .i64 (S.clock + 1)) ∧ wq.cell? ⟨bm, 2, none⟩ = some vL ∧ wq.cell? ⟨bm, 0, none⟩ = some (.int .i64 room)) := by
    intro wq hb
    have hx := (hb.block _ (by omega)).trans hx1
    refine ⟨?_, ?_, ?_, ?_, (hp1.cells.below hb (by omega)).cell.2.2.1, (hp1.cells.below hb (by omega)).cell.1⟩ <;> (rw [Lib.cell_of_heap hx]; rfl)
  obtain ⟨L', hL'⟩ : ∃ L', L' = after S.now (k, p.data.toList, s.data.toList, S.clock + 1) := ⟨_, rfl⟩
  have hll := after_len S.now (k, p.data.toList, s.data.toList, S.clock + 1)
  rw [← hL'] at hnt hu hll e3
  have hfl := hf.files
  have hln : L'.length < 1073741824 := by omega
  have HA : Hid (∀ wq, Below W1.heap.size W1 wq → Calls Try.prog 60 #[vL, .agg #[.int .i64 (k + 1 : Nat), .string p, .string s, .int .i64 (S.clock + 1)]] wq fun e w' => ∃ g cc, e = .returned (.slice (some ⟨g, 0, none⟩) L'.length cc) ∧ Below W1.heap.size W1 w' ∧ RowC w' g L' ∧ Hid (∃ P', RowF w' P' (.slice (some ⟨g, 0, none⟩) L'.length cc) L')) := by
    intro wq hb
    have := after_any vL P S.now _ wq (RowR.below hp1.now hb (Nat.le_refl _)) (by omega) hf.kind (by have := hf.arg; omega) hf.texts
    rw [hch, ← hL'] at this
    refine this.mono ?_
    rintro e w' ⟨v', rfl, hr, hb'⟩
    rcases RowR.cells hr with ⟨hl0, _⟩ | ⟨g, cc, hv, _, hg, hc⟩
    · rw [hl0] at hnt; cases hnt
    · subst hv
      exact ⟨g, cc, rfl, hb.trans (hb'.mono hb.size), hc, ⟨_, hr⟩⟩
  have HF : Hid (∀ w3 g cc, Hid (∃ P', RowF w3 P' (.slice (some ⟨g, 0, none⟩) L'.length cc) L') → RowC w3 g L' → Calls Try.prog 49 #[.slice (some ⟨g, 0, none⟩) L'.length cc, .string p] w3 fun e w' => ∃ j : Nat, e = .returned (.int .i64 j) ∧ w3.cell? ⟨g, j * 3 + 1, none⟩ = some (.string nt) ∧ j < L'.length ∧ w3 = w') := by
    intro w3 g cc hr hc
    obtain ⟨P', hr⟩ := hr.out
    refine (find_hit _ P' L' p w3 hr hln hnt).mono ?_
    rintro e w' ⟨j, rfl, hj, rfl⟩
    have h1 := (hc j _ hj).2.1
    rw [txt_toList] at h1
    exact ⟨j, rfl, h1, (List.getElem?_eq_some_iff.1 hj).1, rfl⟩
  have HB : Hid (∀ w3, Below W1.heap.size W1 w3 → Calls Try.prog 58 #[vL, .string p] w3 fun e w' => e = .returned (.bool (blocked S.now p.data.toList)) ∧ w3 = w') := fun w3 hb =>
    rblk_any vL P S.now p w3 (RowR.below hp1.now hb (Nat.le_refl _)) (by omega) hps hpl
  have HU : Hid (∀ w3 g cc, Hid (∃ P', RowF w3 P' (.slice (some ⟨g, 0, none⟩) L'.length cc) L') → Calls Try.prog 61 #[.slice (some ⟨g, 0, none⟩) L'.length cc] w3 fun e w' => e = .returned (.int .i64 (used L' : Nat)) ∧ w3 = w') := by
    intro w3 g cc hr
    obtain ⟨P', hr⟩ := hr.out
    exact rused_any _ P' L' w3 hr hln hu
  rw [e2] at HB
  have HP := Lib.hid (rpath_b hpb w)
  have c1 := hp.cells.cell.2.1
  have hcl0 := hf.clock0
  have hcl1 := hf.clock1
  have HB1 := Lib.hid hb1
  have hsz : W1.heap.size = w.heap.size + 1 := hs1
  have e1' : ¬ (16777216 : Int) < (nt.size : Int) := by omega
  have e3' : room < (used L' : Int) := e3
  obtain ⟨cl, hcl⟩ : ∃ cl, cl = S.clock := ⟨_, rfl⟩
  obtain ⟨U, hU⟩ : ∃ U, U = used L' := ⟨_, rfl⟩
  obtain ⟨kd, hkd⟩ : ∃ kd : Int, kd = ((k + 1 : Nat) : Int) := ⟨_, rfl⟩
  rw [← hcl] at hW1 HCh HX HA c1 hcl0 hcl1
  rw [← hkd] at hW1 HCh HX HA
  rw [← hkd]
  rw [← hU] at HU e3 e3'
  have hb1d := below_drew (Below.refl W1.heap.size W1)
  obtain ⟨q0, q1, q2, q3, q4, _⟩ := HX.out _ hb1d
  have mixed := lays169.mixed
  have HL := Lib.hid hL'
  clear hp hp1 hf hx1 hs1 hb1 hch hL' hll hfl hnt hu hcl hU hkd hpb hpl hps hk e2
  subst hW1
  go_enter Try.func55, Try.ntmps55
  go_wp2_with (go_at_call 57; refine (HP.out).mono ?_; rintro e w1 ⟨rfl, rfl⟩)
  go_region_held3 (fun w' => w'.cell? ⟨w.heap.size, 0, none⟩ = some (.int .i64 kd) ∧ w'.cell? ⟨w.heap.size, 1, none⟩ = some (.string p) ∧ w'.cell? ⟨w.heap.size, 2, none⟩ = some (.string s) ∧ w'.cell? ⟨w.heap.size, 3, none⟩ = some (.int .i64 (cl + 1)) ∧ w'.cell? ⟨bm, 2, none⟩ = some vL)
    (first | exact ⟨by assumption, by assumption, by assumption, by assumption, by assumption⟩)
    (first | (go_at_call 60; refine (HA.out _ (by assumption)).mono ?_; rintro r w3 ⟨g, cc, rfl, hb3, hc3, HR3⟩; obtain ⟨k0, k1, k2, k3, k4, k5⟩ := HX.out _ hb3))
  clear HA q0 q1 q2 q3 q4 HP c1
  go_wp2_with (first
    | (go_at_call 49; refine (HF.out _ _ _ HR3 hc3).mono ?_; rintro e w4 ⟨j, rfl, hj, hjl, rfl⟩; have hi0 : ¬ ((j : Int) < 0) := (by omega); have hi1 : (0 : Int) ≤ (j : Int) := (by omega); have hi2 : (j : Int) < (L'.length : Int) := (by omega))
    | (go_at_call 58; refine (HB.out _ (by assumption)).mono ?_; rintro e w4 ⟨rfl, rfl⟩))
  have HUQ : Hid (∀ m, Calls Try.prog 61 #[.slice (some ⟨g, 0, none⟩) L'.length cc] (w3.drewN m) fun e w' => e = .returned (.int .i64 (U : Nat)) ∧ w3.drewN m = w') := by
    intro m
    refine HU.out _ _ _ ?_
    obtain ⟨P', hr⟩ := HR3.out
    exact ⟨P', RowR.below hr (below_drewN (Below.refl _ _) m) (Nat.le_refl _)⟩
  clear HU HF HB hc3 HR3 hj
  go_quiet ((exact still_call (HUQ.out _)))
  have hb5 := below_drewN hb3 nq
  obtain ⟨d0, d1, d2, d3, _, d5⟩ := HX.out _ hb5
  clear HUQ HX
  have HBB := Lib.hid (HB1.out.trans (hb5.mono (by omega)))
  generalize w3.drewN nq = w5 at d0 d1 d2 d3 d5 HBB hb5 ⊢
  go_wp2
  go_ret
  exact ⟨rfl, HS.out _ HBB.out⟩

set_option maxRecDepth 100000 in
set_option maxHeartbeats 2000000 in
theorem rwrite_full2 (bm : Nat) (X : Nat → Prop) (k : Nat) (p s nt : ByteArray) (room : Int) (S : St) (w : World) (h : RefS w X bm room S) (hf : RFits S (k, p.data.toList, s.data.toList, S.clock + 1)) (hk : k ≤ 1) (hpb : pathB p.data.toList = true) (hpl : ∀ y ∈ S.now, y.1.length ≤ 1048576) (hps : p.size ≤ maxLen) (hu : used (after S.now (k, p.data.toList, s.data.toList, S.clock + 1)) < 4611686018427387904)
    (hnt : look (after S.now (k, p.data.toList, s.data.toList, S.clock + 1)) p.data.toList = some (nt.data.toList, S.clock + 1)) (e1 : ¬ 16777216 < nt.size) (e2 : blocked S.now p.data.toList = false) (e3 : ¬ room < (used (after S.now (k, p.data.toList, s.data.toList, S.clock + 1)) : Int)) (e4 : 200 < (after S.now (k, p.data.toList, s.data.toList, S.clock + 1)).length) :
    Calls Try.prog 55 #[.pointer (some ⟨bm, 0, none⟩), .int .i64 (k + 1 : Nat), .string p, .string s] w fun r w' => r = .returned (.int .i64 6) ∧ RStep w X bm room S w' := by
  have hch : rcCells (k, p.data.toList, s.data.toList, S.clock + 1) = [.int .i64 (k + 1 : Nat), .string p, .string s, .int .i64 (S.clock + 1)] := by
    unfold rcCells
    simp only [Ch.kind, Ch.path, Ch.arg, Ch.time]
    rw [txt_toList, txt_toList, if_pos hk]
  have HCh : Hid (∀ w1, Below w.heap.size w w1 → Calls Try.prog 56 #[.pointer (some ⟨bm, 0, none⟩), .agg #[.int .i64 (k + 1 : Nat), .string p, .string s, .int .i64 (S.clock + 1)]] w1 fun r w' => r = .returned (.tuple #[]) ∧ RStep w X bm room (doSt S k p.data.toList s.data.toList) w') := by
    intro w1 hb
    exact (rchange_any bm X room S _ _ p s _ hch w1 (h.below hb) hf).mono (fun r w' hr => ⟨hr.1, RStep.behind hb hr.2⟩)
  have HS : Hid (∀ w', Below w.heap.size w w' → RStep w X bm room S w') := fun w' hb => RStep.same h hb
  obtain ⟨P, vL, vS, vC, hp⟩ := h
  obtain ⟨W1, hW1⟩ : ∃ W1, W1 = w.alloc (.cells #[.int .i64 (k + 1 : Nat), .string p, .string s, .int .i64 (S.clock + 1)] 97) := ⟨_, rfl⟩
  have hb1 : Below w.heap.size w W1 := by rw [hW1]; exact (Below.refl _ w).alloc (Nat.le_refl _) _
  have hs1 : W1.heap.size = w.heap.size + 1 := by rw [hW1]; simp
  have hx1 : W1.heap[w.heap.size]? = some (.cells #[.int .i64 (k + 1 : Nat), .string p, .string s, .int .i64 (S.clock + 1)] 97 (0, 0)) := by rw [hW1]; exact World.alloc_heap_new w _
  have hp1 := hp.below hb1
  have hbl : bm < w.heap.size := hp.lt _ hp.xb
  have HX : Hid (∀ wq, Below W1.heap.size W1 wq → wq.cell? ⟨w.heap.size, 0, none⟩ = some (.int .i64 (k + 1 : Nat)) ∧ wq.cell? ⟨w.heap.size, 1, none⟩ = some (.string p) ∧ wq.cell? ⟨w.heap.size, 2, none⟩ = some (.string s) ∧ wq.cell? ⟨w.heap.size, 3, none⟩ = some (.int .i64 (S.clock + 1)) ∧ wq.cell? ⟨bm, 2, none⟩ = some vL ∧ wq.cell? ⟨bm, 0, none⟩ = some (.int .i64 room)) := by
    intro wq hb
    have hx := (hb.block _ (by omega)).trans hx1
    refine ⟨?_, ?_, ?_, ?_, (hp1.cells.below hb (by omega)).cell.2.2.1, (hp1.cells.below hb (by omega)).cell.1⟩ <;> (rw [Lib.cell_of_heap hx]; rfl)
  obtain ⟨L', hL'⟩ : ∃ L', L' = after S.now (k, p.data.toList, s.data.toList, S.clock + 1) := ⟨_, rfl⟩
  have hll := after_len S.now (k, p.data.toList, s.data.toList, S.clock + 1)
  rw [← hL'] at hnt hu hll e3 e4
  have hfl := hf.files
  have hln : L'.length < 1073741824 := by omega
  have HA : Hid (∀ wq, Below W1.heap.size W1 wq → Calls Try.prog 60 #[vL, .agg #[.int .i64 (k + 1 : Nat), .string p, .string s, .int .i64 (S.clock + 1)]] wq fun e w' => ∃ g cc, e = .returned (.slice (some ⟨g, 0, none⟩) L'.length cc) ∧ Below W1.heap.size W1 w' ∧ RowC w' g L' ∧ Hid (∃ P', RowF w' P' (.slice (some ⟨g, 0, none⟩) L'.length cc) L')) := by
    intro wq hb
    have := after_any vL P S.now _ wq (RowR.below hp1.now hb (Nat.le_refl _)) (by omega) hf.kind (by have := hf.arg; omega) hf.texts
    rw [hch, ← hL'] at this
    refine this.mono ?_
    rintro e w' ⟨v', rfl, hr, hb'⟩
    rcases RowR.cells hr with ⟨hl0, _⟩ | ⟨g, cc, hv, _, hg, hc⟩
    · rw [hl0] at hnt; cases hnt
    · subst hv
      exact ⟨g, cc, rfl, hb.trans (hb'.mono hb.size), hc, ⟨_, hr⟩⟩
  have HF : Hid (∀ w3 g cc, Hid (∃ P', RowF w3 P' (.slice (some ⟨g, 0, none⟩) L'.length cc) L') → RowC w3 g L' → Calls Try.prog 49 #[.slice (some ⟨g, 0, none⟩) L'.length cc, .string p] w3 fun e w' => ∃ j : Nat, e = .returned (.int .i64 j) ∧ w3.cell? ⟨g, j * 3 + 1, none⟩ = some (.string nt) ∧ j < L'.length ∧ w3 = w') := by
    intro w3 g cc hr hc
    obtain ⟨P', hr⟩ := hr.out
    refine (find_hit _ P' L' p w3 hr hln hnt).mono ?_
    rintro e w' ⟨j, rfl, hj, rfl⟩
    have h1 := (hc j _ hj).2.1
    rw [txt_toList] at h1
    exact ⟨j, rfl, h1, (List.getElem?_eq_some_iff.1 hj).1, rfl⟩
  have HB : Hid (∀ w3, Below W1.heap.size W1 w3 → Calls Try.prog 58 #[vL, .string p] w3 fun e w' => e = .returned (.bool (blocked S.now p.data.toList)) ∧ w3 = w') := fun w3 hb =>
    rblk_any vL P S.now p w3 (RowR.below hp1.now hb (Nat.le_refl _)) (by omega) hps hpl
  have HU : Hid (∀ w3 g cc, Hid (∃ P', RowF w3 P' (.slice (some ⟨g, 0, none⟩) L'.length cc) L') → Calls Try.prog 61 #[.slice (some ⟨g, 0, none⟩) L'.length cc] w3 fun e w' => e = .returned (.int .i64 (used L' : Nat)) ∧ w3 = w') := by
    intro w3 g cc hr
    obtain ⟨P', hr⟩ := hr.out
    exact rused_any _ P' L' w3 hr hln hu
  rw [e2] at HB
  have HP := Lib.hid (rpath_b hpb w)
  have c1 := hp.cells.cell.2.1
  have hcl0 := hf.clock0
  have hcl1 := hf.clock1
  have HB1 := Lib.hid hb1
  have hsz : W1.heap.size = w.heap.size + 1 := hs1
  have e1' : ¬ (16777216 : Int) < (nt.size : Int) := by omega
  have e3' : decide (room < (used L' : Int)) = false := decide_eq_false e3
  have e4' : (200 : Int) < (L'.length : Int) := by omega
  obtain ⟨cl, hcl⟩ : ∃ cl, cl = S.clock := ⟨_, rfl⟩
  obtain ⟨U, hU⟩ : ∃ U, U = used L' := ⟨_, rfl⟩
  obtain ⟨kd, hkd⟩ : ∃ kd : Int, kd = ((k + 1 : Nat) : Int) := ⟨_, rfl⟩
  rw [← hcl] at hW1 HCh HX HA c1 hcl0 hcl1
  rw [← hkd] at hW1 HCh HX HA
  rw [← hkd]
  rw [← hU] at HU e3 e3'
  have hb1d := below_drew (Below.refl W1.heap.size W1)
  obtain ⟨q0, q1, q2, q3, q4, _⟩ := HX.out _ hb1d
  have mixed := lays169.mixed
  have HL := Lib.hid hL'
  clear hp hp1 hf hx1 hs1 hb1 hch hL' hll hfl hnt hu hcl hU hkd hpb hpl hps hk e2
  subst hW1
  go_enter Try.func55, Try.ntmps55
  go_wp2_with (go_at_call 57; refine (HP.out).mono ?_; rintro e w1 ⟨rfl, rfl⟩)
  go_region_held3 (fun w' => w'.cell? ⟨w.heap.size, 0, none⟩ = some (.int .i64 kd) ∧ w'.cell? ⟨w.heap.size, 1, none⟩ = some (.string p) ∧ w'.cell? ⟨w.heap.size, 2, none⟩ = some (.string s) ∧ w'.cell? ⟨w.heap.size, 3, none⟩ = some (.int .i64 (cl + 1)) ∧ w'.cell? ⟨bm, 2, none⟩ = some vL)
    (first | exact ⟨by assumption, by assumption, by assumption, by assumption, by assumption⟩)
    (first | (go_at_call 60; refine (HA.out _ (by assumption)).mono ?_; rintro r w3 ⟨g, cc, rfl, hb3, hc3, HR3⟩; obtain ⟨k0, k1, k2, k3, k4, k5⟩ := HX.out _ hb3))
  clear HA q0 q1 q2 q3 q4 HP c1
  go_wp2_with (first
    | (go_at_call 49; refine (HF.out _ _ _ HR3 hc3).mono ?_; rintro e w4 ⟨j, rfl, hj, hjl, rfl⟩; have hi0 : ¬ ((j : Int) < 0) := (by omega); have hi1 : (0 : Int) ≤ (j : Int) := (by omega); have hi2 : (j : Int) < (L'.length : Int) := (by omega))
    | (go_at_call 58; refine (HB.out _ (by assumption)).mono ?_; rintro e w4 ⟨rfl, rfl⟩))
  have HUQ : Hid (∀ m, Calls Try.prog 61 #[.slice (some ⟨g, 0, none⟩) L'.length cc] (w3.drewN m) fun e w' => e = .returned (.int .i64 (U : Nat)) ∧ w3.drewN m = w') := by
    intro m
    refine HU.out _ _ _ ?_
    obtain ⟨P', hr⟩ := HR3.out
    exact ⟨P', RowR.below hr (below_drewN (Below.refl _ _) m) (Nat.le_refl _)⟩
  clear HU HF HB hc3 HR3 hj
  go_quiet ((exact still_call (HUQ.out _)))
  have hb5 := below_drewN hb3 nq
  obtain ⟨d0, d1, d2, d3, _, d5⟩ := HX.out _ hb5
  clear HUQ HX
  have HBB := Lib.hid (HB1.out.trans (hb5.mono (by omega)))
  generalize w3.drewN nq = w5 at d0 d1 d2 d3 d5 HBB hb5 ⊢
  go_wp2
  go_ret
  exact ⟨rfl, HS.out _ HBB.out⟩

set_option maxRecDepth 100000 in
set_option maxHeartbeats 2000000 in
theorem rwrite_ok (bm : Nat) (X : Nat → Prop) (k : Nat) (p s nt : ByteArray) (room : Int) (S : St) (w : World) (h : RefS w X bm room S) (hf : RFits S (k, p.data.toList, s.data.toList, S.clock + 1)) (hk : k ≤ 1) (hpb : pathB p.data.toList = true) (hpl : ∀ y ∈ S.now, y.1.length ≤ 1048576) (hps : p.size ≤ maxLen) (hu : used (after S.now (k, p.data.toList, s.data.toList, S.clock + 1)) < 4611686018427387904)
    (hnt : look (after S.now (k, p.data.toList, s.data.toList, S.clock + 1)) p.data.toList = some (nt.data.toList, S.clock + 1)) (e1 : ¬ 16777216 < nt.size) (e2 : blocked S.now p.data.toList = false) (e3 : ¬ room < (used (after S.now (k, p.data.toList, s.data.toList, S.clock + 1)) : Int)) (e4 : ¬ 200 < (after S.now (k, p.data.toList, s.data.toList, S.clock + 1)).length) :
    Calls Try.prog 55 #[.pointer (some ⟨bm, 0, none⟩), .int .i64 (k + 1 : Nat), .string p, .string s] w fun r w' => r = .returned (.int .i64 0) ∧ RStep w X bm room (doSt S k p.data.toList s.data.toList) w' := by
  have hch : rcCells (k, p.data.toList, s.data.toList, S.clock + 1) = [.int .i64 (k + 1 : Nat), .string p, .string s, .int .i64 (S.clock + 1)] := by
    unfold rcCells
    simp only [Ch.kind, Ch.path, Ch.arg, Ch.time]
    rw [txt_toList, txt_toList, if_pos hk]
  have HCh : Hid (∀ w1, Below w.heap.size w w1 → Calls Try.prog 56 #[.pointer (some ⟨bm, 0, none⟩), .agg #[.int .i64 (k + 1 : Nat), .string p, .string s, .int .i64 (S.clock + 1)]] w1 fun r w' => r = .returned (.tuple #[]) ∧ RStep w X bm room (doSt S k p.data.toList s.data.toList) w') := by
    intro w1 hb
    exact (rchange_any bm X room S _ _ p s _ hch w1 (h.below hb) hf).mono (fun r w' hr => ⟨hr.1, RStep.behind hb hr.2⟩)
  have HS : Hid (∀ w', Below w.heap.size w w' → RStep w X bm room S w') := fun w' hb => RStep.same h hb
  obtain ⟨P, vL, vS, vC, hp⟩ := h
  obtain ⟨W1, hW1⟩ : ∃ W1, W1 = w.alloc (.cells #[.int .i64 (k + 1 : Nat), .string p, .string s, .int .i64 (S.clock + 1)] 97) := ⟨_, rfl⟩
  have hb1 : Below w.heap.size w W1 := by rw [hW1]; exact (Below.refl _ w).alloc (Nat.le_refl _) _
  have hs1 : W1.heap.size = w.heap.size + 1 := by rw [hW1]; simp
  have hx1 : W1.heap[w.heap.size]? = some (.cells #[.int .i64 (k + 1 : Nat), .string p, .string s, .int .i64 (S.clock + 1)] 97 (0, 0)) := by rw [hW1]; exact World.alloc_heap_new w _
  have hp1 := hp.below hb1
  have hbl : bm < w.heap.size := hp.lt _ hp.xb
  have HX : Hid (∀ wq, Below W1.heap.size W1 wq → wq.cell? ⟨w.heap.size, 0, none⟩ = some (.int .i64 (k + 1 : Nat)) ∧ wq.cell? ⟨w.heap.size, 1, none⟩ = some (.string p) ∧ wq.cell? ⟨w.heap.size, 2, none⟩ = some (.string s) ∧ wq.cell? ⟨w.heap.size, 3, none⟩ = some (.int .i64 (S.clock + 1)) ∧ wq.cell? ⟨bm, 2, none⟩ = some vL ∧ wq.cell? ⟨bm, 0, none⟩ = some (.int .i64 room)) := by
    intro wq hb
    have hx := (hb.block _ (by omega)).trans hx1
    refine ⟨?_, ?_, ?_, ?_, (hp1.cells.below hb (by omega)).cell.2.2.1, (hp1.cells.below hb (by omega)).cell.1⟩ <;> (rw [Lib.cell_of_heap hx]; rfl)
  obtain ⟨L', hL'⟩ : ∃ L', L' = after S.now (k, p.data.toList, s.data.toList, S.clock + 1) := ⟨_, rfl⟩
  have hll := after_len S.now (k, p.data.toList, s.data.toList, S.clock + 1)
  rw [← hL'] at hnt hu hll e3 e4
  have hfl := hf.files
  have hln : L'.length < 1073741824 := by omega
  have HA : Hid (∀ wq, Below W1.heap.size W1 wq → Calls Try.prog 60 #[vL, .agg #[.int .i64 (k + 1 : Nat), .string p, .string s, .int .i64 (S.clock + 1)]] wq fun e w' => ∃ g cc, e = .returned (.slice (some ⟨g, 0, none⟩) L'.length cc) ∧ Below W1.heap.size W1 w' ∧ RowC w' g L' ∧ Hid (∃ P', RowF w' P' (.slice (some ⟨g, 0, none⟩) L'.length cc) L')) := by
    intro wq hb
    have := after_any vL P S.now _ wq (RowR.below hp1.now hb (Nat.le_refl _)) (by omega) hf.kind (by have := hf.arg; omega) hf.texts
    rw [hch, ← hL'] at this
    refine this.mono ?_
    rintro e w' ⟨v', rfl, hr, hb'⟩
    rcases RowR.cells hr with ⟨hl0, _⟩ | ⟨g, cc, hv, _, hg, hc⟩
    · rw [hl0] at hnt; cases hnt
    · subst hv
      exact ⟨g, cc, rfl, hb.trans (hb'.mono hb.size), hc, ⟨_, hr⟩⟩
  have HF : Hid (∀ w3 g cc, Hid (∃ P', RowF w3 P' (.slice (some ⟨g, 0, none⟩) L'.length cc) L') → RowC w3 g L' → Calls Try.prog 49 #[.slice (some ⟨g, 0, none⟩) L'.length cc, .string p] w3 fun e w' => ∃ j : Nat, e = .returned (.int .i64 j) ∧ w3.cell? ⟨g, j * 3 + 1, none⟩ = some (.string nt) ∧ j < L'.length ∧ w3 = w') := by
    intro w3 g cc hr hc
    obtain ⟨P', hr⟩ := hr.out
    refine (find_hit _ P' L' p w3 hr hln hnt).mono ?_
    rintro e w' ⟨j, rfl, hj, rfl⟩
    have h1 := (hc j _ hj).2.1
    rw [txt_toList] at h1
    exact ⟨j, rfl, h1, (List.getElem?_eq_some_iff.1 hj).1, rfl⟩
  have HB : Hid (∀ w3, Below W1.heap.size W1 w3 → Calls Try.prog 58 #[vL, .string p] w3 fun e w' => e = .returned (.bool (blocked S.now p.data.toList)) ∧ w3 = w') := fun w3 hb =>
    rblk_any vL P S.now p w3 (RowR.below hp1.now hb (Nat.le_refl _)) (by omega) hps hpl
  have HU : Hid (∀ w3 g cc, Hid (∃ P', RowF w3 P' (.slice (some ⟨g, 0, none⟩) L'.length cc) L') → Calls Try.prog 61 #[.slice (some ⟨g, 0, none⟩) L'.length cc] w3 fun e w' => e = .returned (.int .i64 (used L' : Nat)) ∧ w3 = w') := by
    intro w3 g cc hr
    obtain ⟨P', hr⟩ := hr.out
    exact rused_any _ P' L' w3 hr hln hu
  rw [e2] at HB
  have HP := Lib.hid (rpath_b hpb w)
  have c1 := hp.cells.cell.2.1
  have hcl0 := hf.clock0
  have hcl1 := hf.clock1
  have HB1 := Lib.hid hb1
  have hsz : W1.heap.size = w.heap.size + 1 := hs1
  have e1' : ¬ (16777216 : Int) < (nt.size : Int) := by omega
  have e3' : decide (room < (used L' : Int)) = false := decide_eq_false e3
  have e4' : ¬ (200 : Int) < (L'.length : Int) := by omega
  obtain ⟨cl, hcl⟩ : ∃ cl, cl = S.clock := ⟨_, rfl⟩
  obtain ⟨U, hU⟩ : ∃ U, U = used L' := ⟨_, rfl⟩
  obtain ⟨kd, hkd⟩ : ∃ kd : Int, kd = ((k + 1 : Nat) : Int) := ⟨_, rfl⟩
  rw [← hcl] at hW1 HCh HX HA c1 hcl0 hcl1
  rw [← hkd] at hW1 HCh HX HA
  rw [← hkd]
  rw [← hU] at HU e3 e3'
  have hb1d := below_drew (Below.refl W1.heap.size W1)
  obtain ⟨q0, q1, q2, q3, q4, _⟩ := HX.out _ hb1d
  have mixed := lays169.mixed
  have HL := Lib.hid hL'
  clear hp hp1 hf hx1 hs1 hb1 hch hL' hll hfl hnt hu hcl hU hkd hpb hpl hps hk e2
  subst hW1
  go_enter Try.func55, Try.ntmps55
  go_wp2_with (go_at_call 57; refine (HP.out).mono ?_; rintro e w1 ⟨rfl, rfl⟩)
  go_region_held3 (fun w' => w'.cell? ⟨w.heap.size, 0, none⟩ = some (.int .i64 kd) ∧ w'.cell? ⟨w.heap.size, 1, none⟩ = some (.string p) ∧ w'.cell? ⟨w.heap.size, 2, none⟩ = some (.string s) ∧ w'.cell? ⟨w.heap.size, 3, none⟩ = some (.int .i64 (cl + 1)) ∧ w'.cell? ⟨bm, 2, none⟩ = some vL)
    (first | exact ⟨by assumption, by assumption, by assumption, by assumption, by assumption⟩)
    (first | (go_at_call 60; refine (HA.out _ (by assumption)).mono ?_; rintro r w3 ⟨g, cc, rfl, hb3, hc3, HR3⟩; obtain ⟨k0, k1, k2, k3, k4, k5⟩ := HX.out _ hb3))
  clear HA q0 q1 q2 q3 q4 HP c1
  go_wp2_with (first
    | (go_at_call 49; refine (HF.out _ _ _ HR3 hc3).mono ?_; rintro e w4 ⟨j, rfl, hj, hjl, rfl⟩; have hi0 : ¬ ((j : Int) < 0) := (by omega); have hi1 : (0 : Int) ≤ (j : Int) := (by omega); have hi2 : (j : Int) < (L'.length : Int) := (by omega))
    | (go_at_call 58; refine (HB.out _ (by assumption)).mono ?_; rintro e w4 ⟨rfl, rfl⟩))
  have HUQ : Hid (∀ m, Calls Try.prog 61 #[.slice (some ⟨g, 0, none⟩) L'.length cc] (w3.drewN m) fun e w' => e = .returned (.int .i64 (U : Nat)) ∧ w3.drewN m = w') := by
    intro m
    refine HU.out _ _ _ ?_
    obtain ⟨P', hr⟩ := HR3.out
    exact ⟨P', RowR.below hr (below_drewN (Below.refl _ _) m) (Nat.le_refl _)⟩
  clear HU HF HB hc3 HR3 hj
  go_quiet ((exact still_call (HUQ.out _)))
  have hb5 := below_drewN hb3 nq
  obtain ⟨d0, d1, d2, d3, _, d5⟩ := HX.out _ hb5
  clear HUQ HX
  have HBB := Lib.hid (HB1.out.trans (hb5.mono (by omega)))
  generalize w3.drewN nq = w5 at d0 d1 d2 d3 d5 HBB hb5 ⊢
  go_wp2_with (first | (go_at_call 56; refine (HCh.out _ HBB.out).mono ?_; rintro r w7 ⟨rfl, hq7⟩))
  go_ret
  exact ⟨rfl, hq7⟩

end Go.Proofs.Ytginlknlkbhgaaa
