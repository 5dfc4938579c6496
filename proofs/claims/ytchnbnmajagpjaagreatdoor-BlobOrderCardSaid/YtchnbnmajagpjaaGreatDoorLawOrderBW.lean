/-
  BlobOrder: numbers are 1, 2, .. in the order in which texts were first asked for; what is found, and what is not, does not give any: for every argument. No condition.
-/
import Derived.Deep.RegionHeld3
import Derived.Deep.QuietTactic
import Derived.Deep.DeepCutAuto
import Derived.Deep.CutBlock
import Derived.BigQuiet
import Derived.Test.YtchnbnmajagpjaaGreatDoorBLaw
namespace Go.Proofs.YtchnbnmajagpjaaGreatDoor
open Go.RowKit Go.Shelf Go.Maps

theorem among_next {ts : List BS} {k : Nat} {y : BS} (h : ts[k]? = some y) (s : BS) : s ∈ ts.take (k + 1) ↔ s ∈ ts.take k ∨ s = y := by
  rw [List.take_add_one, h]
  simp
/-- One text more is compared: what is new stays so if it is another one. -/
theorem fresh_next {xs : List ByteArray} {q : Nat} {x : ByteArray} {b b' : Bool} (hq : q < xs.length) (h : b = true ↔ x.data.toList ∉ (rawOf xs).take q) (hb : b' = (b && !(decide (xs[q] = x)))) : b' = true ↔ x.data.toList ∉ (rawOf xs).take (q + 1) := by
  rw [among_next (raw_next hq), hb]
  have e : xs[q] = x ↔ x.data.toList = xs[q].data.toList := ⟨fun h => by rw [h], fun h => by rw [← txt_toList x, ← txt_toList xs[q], h]⟩
  by_cases hx : xs[q] = x
  · simp [hx]
  · have hx' : ¬ x.data.toList = xs[q].data.toList := fun h => hx (e.2 h)
    simp only [hx, decide_false, Bool.not_false, Bool.and_true, hx', or_false]
    exact h
theorem among_more {xs : List ByteArray} {q : Nat} {x : ByteArray} {b b' : Bool} (hq : q < xs.length) (h : b = true ↔ x.data.toList ∈ (rawOf xs).take q) (hb : b' = (b || decide (xs[q] = x))) : b' = true ↔ x.data.toList ∈ (rawOf xs).take (q + 1) := by
  rw [among_next (raw_next hq), hb]
  have e : xs[q] = x ↔ x.data.toList = xs[q].data.toList := ⟨fun h => by rw [h], fun h => by rw [← txt_toList x, ← txt_toList xs[q], h]⟩
  rw [Bool.or_eq_true, h, decide_eq_true_iff, e]

set_option maxRecDepth 100000 in
set_option maxHeartbeats 16000000 in
theorem blobOrder_walk (v0 : Value) (xs0 : List ByteArray) (hn0 : xs0.length ≤ maxLen) (hz0 : ∀ x ∈ xs0, x.size ≤ maxLen) (v1 : Value) (xs1 : List ByteArray) (hn1 : xs1.length ≤ maxLen) (hz1 : ∀ x ∈ xs1, x.size ≤ maxLen) (w : World) (hr0 : ReadsO w w.heap.size v0 xs0) (hr1 : ReadsO w w.heap.size v1 xs1) :
    Calls Tryz.prog 6 #[v0, v1] w (LawPost w) := by
  have HSh := Lib.hid (shownB_at w)
  have HBg : Hid (∀ W, Below w.heap.size w W → _) := fun W hb => begunN (w0 := w) 1048576 (by omega) (by omega) hb
  have hb0 : Below w.heap.size w w := Below.refl _ _
  obtain ⟨o0, c0', rfl, hx0⟩ := id hr0
  have HX0 : Hid (∀ W, Below w.heap.size w W → ∀ k (hk : k < xs0.length), ∃ g f, o0 = some ⟨g, f, none⟩ ∧ xs0.length ≤ c0' ∧ W.cell? ⟨g, f + k, none⟩ = some (.string xs0[k])) := fun W hb k hk => by
    obtain ⟨o', c', hv', hx'⟩ := hr0.below hb hb.size
    cases hv'
    obtain ⟨g, f, q1, _, q3, q4⟩ := hx' k _ (List.getElem?_eq_getElem hk)
    exact ⟨g, f, q1, q3, q4⟩
  clear hx0
  obtain ⟨o1, c1', rfl, hx1⟩ := id hr1
  have HX1 : Hid (∀ W, Below w.heap.size w W → ∀ k (hk : k < xs1.length), ∃ g f, o1 = some ⟨g, f, none⟩ ∧ xs1.length ≤ c1' ∧ W.cell? ⟨g, f + k, none⟩ = some (.string xs1[k])) := fun W hb k hk => by
    obtain ⟨o', c', hv', hx'⟩ := hr1.below hb hb.size
    cases hv'
    obtain ⟨g, f, q1, _, q3, q4⟩ := hx' k _ (List.getElem?_eq_getElem hk)
    exact ⟨g, f, q1, q3, q4⟩
  clear hx1
  by_cases h0 : 30 < xs0.length
  · have d0 : decide (30 < (xs0.length : Int)) = true := by simp; omega
    have hlI : (xs0.length : Int) ≤ 9223372036854775807 := by unfold maxLen at hn0; omega
    clear hr0 hn0 hz0 HX0 hr1 hn1 hz1 HX1 h0
    go_enter Tryz.func6, Tryz.ntmps6
    go_wp2_with (first
      | (go_at_call 8; refine (HSh.out _ hb0).mono ?_; rintro e w2 ⟨rfl, hb2⟩)
      | (go_at_call 10; refine (HBg.out _ hb2).mono ?_; rintro e w1 ⟨bt, bm, rfl, h0⟩))
    go_ret
    exact ⟨rfl, h0.back⟩
  have d0 : decide (30 < (xs0.length : Int)) = false := by simp; omega
  by_cases h1 : 30 < xs1.length
  · have d1 : decide (30 < (xs1.length : Int)) = true := by simp; omega
    have hlI : (xs1.length : Int) ≤ 9223372036854775807 := by unfold maxLen at hn1; omega
    clear hr0 hn0 hz0 HX0 hr1 hn1 hz1 HX1 h1
    go_enter Tryz.func6, Tryz.ntmps6
    go_wp2_with (first
      | (go_at_call 8; refine (HSh.out _ hb0).mono ?_; rintro e w2 ⟨rfl, hb2⟩)
      | (go_at_call 10; refine (HBg.out _ hb2).mono ?_; rintro e w1 ⟨bt, bm, rfl, h0⟩))
    go_ret
    exact ⟨rfl, h0.back⟩
  have d1 : decide (30 < (xs1.length : Int)) = false := by simp; omega
  have hl0 : xs0.length ≤ 30 := by omega
  have hl1 : xs1.length ≤ 30 := by omega
  have HZ0 := Lib.hid hz0
  have HZ1 := Lib.hid hz1
  clear hr0 hn0 hz0 hr1 hn1 hz1 h0 h1
  go_enter Tryz.func6, Tryz.ntmps6
  go_wp2_with (first
    | (go_at_call 8; refine (HSh.out _ hb0).mono ?_; rintro e w2 ⟨rfl, hb2⟩)
    | (go_at_call 10; refine (HBg.out _ hb2).mono ?_; rintro e w1 ⟨bt, bm, rfl, h0⟩))
  obtain ⟨c0, c1⟩ := h0.pairAt (pb := w1.heap.size) (bt := bt) (bm := bm) (by simp)
  have HO := Lib.hid (h0.bkNew (by omega) (by omega))
  clear h0 HSh HBg hb0 hb2
  go_wp2_with fail
  refine HO.out.mono ?_
  rintro e w2 ⟨sb, S1, rfl, h1, hB1, hg1⟩
  have HB1 := Lib.hid hB1
  have HG1 := Lib.hid hg1
  clear hB1 hg1 HO
  go_wp2
  go_loopw [10, 11] (fun nx i wr => ∃ (k : Nat) (S : St), k ≤ xs0.length ∧ nx = .int .i64 (((allT ((rawOf xs0).take k)).length : Int) + 1) ∧ i = .int .i64 k ∧ Hid (BK S (allT ((rawOf xs0).take k)) 0 ∧ Good 1048576 (7 + k) S) ∧ In w (oStore sb bt ⟨#[98]⟩ (allT ((rawOf xs0).take k)) :: oTree 1048576 bt S :: oPair w1.heap.size bt bm :: oRef 1048576 bm (0, [], [], []) :: []) wr) (fun _ i _ => xs0.length - (intOf i).toNat)
  case atStart => exact ⟨0, S1, Nat.zero_le _, rfl, rfl, ⟨HB1.out, HG1.out⟩, h1⟩
  case round =>
    clear h1 HB1 HG1
    obtain ⟨k, S, hk, rfl, rfl, HS, hI⟩ := hrel
    by_cases hlt : k < xs0.length
    · obtain ⟨g, f, rfl, hcl, hcell⟩ := HX0.out wr hI.back k hlt
      have hkc : k < c0' := by omega
      have hik : (k : Int) < (xs0.length : Int) := by omega
      have hi0 : (0 : Int) ≤ (k : Int) := by omega
      have hnx := allT_next (raw_next hlt)
      have HXk : Hid (∀ W, Below w.heap.size w W → W.cell? ⟨g, f + k, none⟩ = some (.string xs0[k])) := fun W hb => by
        obtain ⟨g', f', q1, _, q3⟩ := HX0.out W hb k hlt
        cases q1
        exact q3
      obtain ⟨x, hx⟩ : ∃ x, x = xs0[k] := ⟨_, rfl⟩
      rw [← hx] at hcell hnx HXk
      by_cases h300 : 300 < x.size
      · have d3 : decide (300 < (x.size : Int)) = true := by simp; omega
        have hb := Lib.hid hI.back
        clear hI HS hnx hx HX0 HXk HZ0
        go_wp2
        go_ret
        exact ⟨rfl, hb.out⟩
      · have d3 : decide (300 < (x.size : Int)) = false := by simp; omega
        have HNX := Lib.hid hnx
        clear hx hnx
        go_wp2
        go_loopw [12, 13] (fun fr j wr => ∃ (q : Nat) (b : Bool), q ≤ k ∧ fr = .bool b ∧ j = .int .i64 q ∧ Hid (b = true ↔ x.data.toList ∉ (rawOf xs0).take q) ∧ In w (oStore sb bt ⟨#[98]⟩ (allT ((rawOf xs0).take k)) :: oTree 1048576 bt S :: oPair w1.heap.size bt bm :: oRef 1048576 bm (0, [], [], []) :: []) wr) (fun _ j _ => k - (intOf j).toNat)
        case atStart => exact ⟨0, true, Nat.zero_le _, rfl, rfl, (by show _ ↔ _; simp), hI⟩
        case round =>
          clear hI hcell
          obtain ⟨q, b, hq, rfl, rfl, HB, hI⟩ := hrel
          have hxk := HXk.out wr hI.back
          by_cases hlq : q < k
          · have hqn : q < xs0.length := by omega
            obtain ⟨g', f', e2, _, hy⟩ := HX0.out wr hI.back q hqn
            cases e2
            have hqc : q < c0' := by omega
            have hiq : (q : Int) < (k : Int) := by omega
            have hqi : (q : Int) < (xs0.length : Int) := by omega
            have hq0 : (0 : Int) ≤ (q : Int) := by omega
            have HBn : Hid (∀ b', b' = (b && !(decide (xs0[q] = x))) → (b' = true ↔ x.data.toList ∉ (rawOf xs0).take (q + 1))) := fun b' hb' => fresh_next hqn HB.out hb'
            obtain ⟨y, hy'⟩ : ∃ y, y = xs0[q] := ⟨_, rfl⟩
            rw [← hy'] at hy HBn
            have hI9 := Lib.hid hI
            have hId : In w (oStore sb bt ⟨#[98]⟩ (allT ((rawOf xs0).take k)) :: oTree 1048576 bt S :: oPair w1.heap.size bt bm :: oRef 1048576 bm (0, [], [], []) :: []) wr.drew := hI.below (below_drew (Below.refl _ _))
            have e3 : wr.drew.cell? ⟨g, f + q, none⟩ = some (.string y) := hy
            have e4 : wr.drew.cell? ⟨g, f + k, none⟩ = some (.string x) := hxk
            clear HX0 HXk HZ0 HB HS HNX hy' hI hy hxk
            cases b with
            | false =>
              have HN : Hid (∀ b', b' = false → (b' = true ↔ x.data.toList ∉ (rawOf xs0).take (q + 1))) := fun b' h => HBn.out b' (by rw [h]; simp)
              clear HBn
              have hI4 := hI9
              go_wp2
              go_quiet (fail)
              have hI5 : In w (oStore sb bt ⟨#[98]⟩ (allT ((rawOf xs0).take k)) :: oTree 1048576 bt S :: oPair w1.heap.size bt bm :: oRef 1048576 bm (0, [], [], []) :: []) (wr.drewN nq) := hI4.out.below (below_drewN (Below.refl _ wr) nq)
              clear hI4 hI9
              generalize wr.drewN nq = w4 at hI5 ⊢
              go_wp2
              go_roundw
              case rel => exact ⟨q + 1, false, hlq, rfl, by go_num, HN.out _ rfl, hI5⟩
              case measure => simp [intOf]; omega
            | true =>
              by_cases heq : y = x
              · have hs : (y.toList == x.toList) = true := by rw [str_eq]; simp [heq]
                have HN : Hid (∀ b', b' = false → (b' = true ↔ x.data.toList ∉ (rawOf xs0).take (q + 1))) := fun b' h => HBn.out b' (by rw [h]; simp [heq])
                clear HBn heq
                go_wp2
                go_region_held3 (fun W => W.cell? ⟨g, f + q, none⟩ = some (.string y) ∧ W.cell? ⟨g, f + k, none⟩ = some (.string x) ∧ In w (oStore sb bt ⟨#[98]⟩ (allT ((rawOf xs0).take k)) :: oTree 1048576 bt S :: oPair w1.heap.size bt bm :: oRef 1048576 bm (0, [], [], []) :: []) W)
                  (first | exact ⟨by assumption, by assumption, by assumption⟩)
                  (first | fail)
                all_goals (
                  go_wp2
                  go_roundw
                  case rel => exact ⟨q + 1, false, hlq, rfl, by go_num, HN.out _ rfl, by assumption⟩
                  case measure => simp [intOf]; omega)
              · have hs : (y.toList == x.toList) = false := by rw [str_eq]; simp [heq]
                have HN : Hid (∀ b', b' = true → (b' = true ↔ x.data.toList ∉ (rawOf xs0).take (q + 1))) := fun b' h => HBn.out b' (by rw [h]; simp [heq])
                clear HBn heq
                go_wp2
                go_region_held3 (fun W => W.cell? ⟨g, f + q, none⟩ = some (.string y) ∧ W.cell? ⟨g, f + k, none⟩ = some (.string x) ∧ In w (oStore sb bt ⟨#[98]⟩ (allT ((rawOf xs0).take k)) :: oTree 1048576 bt S :: oPair w1.heap.size bt bm :: oRef 1048576 bm (0, [], [], []) :: []) W)
                  (first | exact ⟨by assumption, by assumption, by assumption⟩)
                  (first | fail)
                all_goals (
                  go_wp2
                  go_roundw
                  case rel => exact ⟨q + 1, true, hlq, rfl, by go_num, HN.out _ rfl, by assumption⟩
                  case measure => simp [intOf]; omega)
          · have hqk : q = k := by omega
            subst hqk
            have hiq : ¬ (q : Int) < (q : Int) := by omega
            have hlen : (allT ((rawOf xs0).take q)).length ≤ 100 := by have := len_allT ((rawOf xs0).take q); rw [List.length_take] at this; omega
            have hId := hI.bkId HS.out.1 HS.out.2 (by omega) hlen x (by omega) (roomy_many HS.out.1.short hlen (by have : x.data.toList.length = x.size := (by simp); omega))
            have hF := hI.bfind (sb := sb) (bt := bt) (p := ⟨#[98]⟩) (L := allT ((rawOf xs0).take q)) (by simp) x (by unfold maxLen; omega)
            have hmem : x.data.toList ∈ allT ((rawOf xs0).take q) ↔ x.data.toList ∈ (rawOf xs0).take q := mem_allT
            have hle := find_le (allT ((rawOf xs0).take q)) x.data.toList
            obtain ⟨L, hL⟩ : ∃ L, L = allT ((rawOf xs0).take q) := ⟨_, rfl⟩
            have hnx := HNX.out
            clear HNX
            rw [← hL] at hId hF hmem hle hlen hnx
            cases b with
            | true =>
              have hnm : x.data.toList ∉ L := fun h => HB.out.1 rfl (hmem.1 h)
              rw [find_not hnm] at hF
              rw [addT_new hnm, find_new hnm, Int.natCast_succ] at hId
              rw [addT_new hnm] at hnx
              have HLn : Hid (((allT ((rawOf xs0).take (q + 1))).length : Int) = (L.length : Int) + 1) := by show _ = _; rw [hnx, List.length_append]; rfl
              have HE : Hid (∀ S' W, BK S' (L ++ [x.data.toList]) 0 → In w (oStore sb bt ⟨#[98]⟩ (L ++ [x.data.toList]) :: oTree 1048576 bt S' :: oPair w1.heap.size bt bm :: oRef 1048576 bm (0, [], [], []) :: []) W → BK S' (allT ((rawOf xs0).take (q + 1))) 0 ∧ In w (oStore sb bt ⟨#[98]⟩ (allT ((rawOf xs0).take (q + 1))) :: oTree 1048576 bt S' :: oPair w1.heap.size bt bm :: oRef 1048576 bm (0, [], [], []) :: []) W) := fun S' W h h' => by rw [hnx]; exact ⟨h, h'⟩
              have HF := Lib.hid hF
              have HId := Lib.hid hId
              have hLI : ((allT ((rawOf xs0).take q)).length : Int) = (L.length : Int) := by rw [hL]
              rw [hLI]
              clear hnm hF hId hnx hmem hle hL hI HS HB HX0 HXk HZ0 hLI
              generalize L.length = LN at *
              go_wp2_with (first
                | (go_at_call 24; with_reducible refine (HF.out).mono ?_; rintro e w4 ⟨rfl, rfl⟩)
                | (go_at_call 15; with_reducible refine HId.out.mono ?_; rintro e w5 ⟨rfl, S', h5, hB5, hg5⟩))
              obtain ⟨hB6, h6⟩ := HE.out _ _ hB5 h5
              go_roundw
              case rel => exact ⟨q + 1, S', hlt, by rw [HLn.out], by go_num, ⟨hB6, hg5⟩, h6⟩
              case measure => simp [intOf]; omega
            | false =>
              have hm : x.data.toList ∈ L := Decidable.byContradiction fun h => absurd (HB.out.2 (fun h2 => h (hmem.2 h2))) (by simp)
              rw [addT_mem hm] at hId
              rw [addT_mem hm] at hnx
              have hpos := find_pos.2 hm
              have HLn : Hid (((allT ((rawOf xs0).take (q + 1))).length : Int) = (L.length : Int)) := by show _ = _; rw [hnx]
              have HE : Hid (∀ S' W, BK S' L 0 → In w (oStore sb bt ⟨#[98]⟩ (L) :: oTree 1048576 bt S' :: oPair w1.heap.size bt bm :: oRef 1048576 bm (0, [], [], []) :: []) W → BK S' (allT ((rawOf xs0).take (q + 1))) 0 ∧ In w (oStore sb bt ⟨#[98]⟩ (allT ((rawOf xs0).take (q + 1))) :: oTree 1048576 bt S' :: oPair w1.heap.size bt bm :: oRef 1048576 bm (0, [], [], []) :: []) W) := fun S' W h h' => by rw [hnx]; exact ⟨h, h'⟩
              have HF := Lib.hid hF
              have HId := Lib.hid hId
              have hLI : ((allT ((rawOf xs0).take q)).length : Int) = (L.length : Int) := by rw [hL]
              rw [hLI]
              clear hm hF hId hnx hmem hL hI HS HB HX0 HXk HZ0 hLI
              generalize L.length = LN at *
              generalize findN L x.data.toList = NN at *
              have d4 : ((NN : Int) == 0) = false := by simp; omega
              have d5 : decide ((LN : Int) + 1 ≤ (NN : Int)) = false := by simp; omega
              go_wp2_with (first
                | (go_at_call 24; with_reducible refine (HF.out).mono ?_; rintro e w4 ⟨rfl, rfl⟩)
                | (go_at_call 15; with_reducible refine HId.out.mono ?_; rintro e w5 ⟨rfl, S', h5, hB5, hg5⟩))
              obtain ⟨hB6, h6⟩ := HE.out _ _ hB5 h5
              go_roundw
              case rel => exact ⟨q + 1, S', hlt, by rw [HLn.out], by go_num, ⟨hB6, hg5⟩, h6⟩
              case measure => simp [intOf]; omega
    · have hkN : k = xs0.length := by omega
      subst hkN
      have hall : (rawOf xs0).take xs0.length = rawOf xs0 := List.take_of_length_le (by simp [rawOf])
      rw [hall] at HS hI ⊢
      have hmem : ∀ s : BS, s ∈ allT (rawOf xs0) ↔ s ∈ rawOf xs0 := fun s => mem_allT
      have hlen : (allT (rawOf xs0)).length ≤ xs0.length := by have := len_allT (rawOf xs0); simpa [rawOf] using this
      obtain ⟨L, hL⟩ : ∃ L, L = allT (rawOf xs0) := ⟨_, rfl⟩
      rw [← hL] at HS hI hmem hlen ⊢
      have HM := Lib.hid hmem
      have HLn : Hid (∀ W, In w (oStore sb bt ⟨#[98]⟩ L :: oTree 1048576 bt S :: oPair w1.heap.size bt bm :: oRef 1048576 bm (0, [], [], []) :: []) W → Calls Tryz.prog 23 #[.pointer (some ⟨sb, 0, none⟩)] W fun e w' => e = .returned (.int .i64 L.length) ∧ W = w') := fun W h => h.blen (bt := bt) (p := ⟨#[98]⟩) (by simp)
      clear hall hk hlt HS hmem hL
      have hLL : L.length ≤ 30 := by omega
      obtain ⟨LN, hLN⟩ : ∃ LN, LN = L.length := ⟨_, rfl⟩
      rw [← hLN] at HLn hLL hlen ⊢
      clear hLN
      have e9 : (LN : Int) + 1 - 1 = (LN : Int) := by omega
      have e8 : IntKind.i64.wrap (LN : Int) = (LN : Int) := by rw [IntKind.wrap_i64]; omega
      go_wp2
      go_loopw [16] (fun i wr => ∃ a : Nat, a ≤ xs1.length ∧ i = .int .i64 a ∧ In w (oStore sb bt ⟨#[98]⟩ L :: oTree 1048576 bt S :: oPair w1.heap.size bt bm :: oRef 1048576 bm (0, [], [], []) :: []) wr) (fun i _ => xs1.length - (intOf i).toNat)
      case atStart => exact ⟨0, Nat.zero_le _, rfl, hI⟩
      case round =>
        clear hI
        obtain ⟨a, ha, rfl, hI⟩ := hrel
        by_cases hlt : a < xs1.length
        · obtain ⟨g1, f1, rfl, hcl1, hcell1⟩ := HX1.out wr hI.back a hlt
          have hac : a < c1' := by omega
          have hia : (a : Int) < (xs1.length : Int) := by omega
          have ha0 : (0 : Int) ≤ (a : Int) := by omega
          have HXa : Hid (∀ W, Below w.heap.size w W → W.cell? ⟨g1, f1 + a, none⟩ = some (.string xs1[a])) := fun W hb => by
            obtain ⟨g', f', q1, _, q3⟩ := HX1.out W hb a hlt
            cases q1
            exact q3
          have hxz := HZ1.out xs1[a] (List.getElem_mem hlt)
          obtain ⟨x, hx⟩ : ∃ x, x = xs1[a] := ⟨_, rfl⟩
          rw [← hx] at hcell1 HXa hxz
          clear hx
          go_wp2
          go_loopw [17, 18] (fun inn j wr => ∃ (q : Nat) (b : Bool), q ≤ xs0.length ∧ inn = .bool b ∧ j = .int .i64 q ∧ Hid (b = true ↔ x.data.toList ∈ (rawOf xs0).take q) ∧ In w (oStore sb bt ⟨#[98]⟩ L :: oTree 1048576 bt S :: oPair w1.heap.size bt bm :: oRef 1048576 bm (0, [], [], []) :: []) wr) (fun _ j _ => xs0.length - (intOf j).toNat)
          case atStart => exact ⟨0, false, Nat.zero_le _, rfl, rfl, (by show _ ↔ _; simp), hI⟩
          case round =>
            clear hI hcell1
            obtain ⟨q, b, hq, rfl, rfl, HB, hI⟩ := hrel
            have hxk := HXa.out wr hI.back
            by_cases hlq : q < xs0.length
            · obtain ⟨g', f', rfl, hcl, hy⟩ := HX0.out wr hI.back q hlq
              have hqc : q < c0' := by omega
              have hiq : (q : Int) < (xs0.length : Int) := by omega
              have hq0 : (0 : Int) ≤ (q : Int) := by omega
              have HBn : Hid (∀ b', b' = (b || decide (xs0[q] = x)) → (b' = true ↔ x.data.toList ∈ (rawOf xs0).take (q + 1))) := fun b' hb' => among_more hlq HB.out hb'
              obtain ⟨y, hy'⟩ : ∃ y, y = xs0[q] := ⟨_, rfl⟩
              rw [← hy'] at hy HBn
              have hI9 := Lib.hid hI
              have hId : In w (oStore sb bt ⟨#[98]⟩ L :: oTree 1048576 bt S :: oPair w1.heap.size bt bm :: oRef 1048576 bm (0, [], [], []) :: []) wr.drew := hI.below (below_drew (Below.refl _ _))
              have e3 : wr.drew.cell? ⟨g', f' + q, none⟩ = some (.string y) := hy
              have e4 : wr.drew.cell? ⟨g1, f1 + a, none⟩ = some (.string x) := hxk
              clear HX0 HX1 HXa HZ0 HZ1 HB HM hy' HLn hI hy hxk
              cases b with
              | true =>
                have HN : Hid (∀ b', b' = true → (b' = true ↔ x.data.toList ∈ (rawOf xs0).take (q + 1))) := fun b' h => HBn.out b' (by rw [h]; simp)
                clear HBn
                have hI4 := hI9
                go_wp2
                go_quiet (fail)
                have hI5 : In w (oStore sb bt ⟨#[98]⟩ L :: oTree 1048576 bt S :: oPair w1.heap.size bt bm :: oRef 1048576 bm (0, [], [], []) :: []) (wr.drewN nq) := hI4.out.below (below_drewN (Below.refl _ wr) nq)
                clear hI4 hI9
                generalize wr.drewN nq = w4 at hI5 ⊢
                go_wp2
                go_roundw
                case rel => exact ⟨q + 1, true, hlq, rfl, by go_num, HN.out _ rfl, hI5⟩
                case measure => simp [intOf]; omega
              | false =>
                by_cases heq : y = x
                · have hs : (y.toList == x.toList) = true := by rw [str_eq]; simp [heq]
                  have HN : Hid (∀ b', b' = true → (b' = true ↔ x.data.toList ∈ (rawOf xs0).take (q + 1))) := fun b' h => HBn.out b' (by rw [h]; simp [heq])
                  clear HBn heq
                  go_wp2
                  go_region_held3 (fun W => W.cell? ⟨g', f' + q, none⟩ = some (.string y) ∧ W.cell? ⟨g1, f1 + a, none⟩ = some (.string x) ∧ In w (oStore sb bt ⟨#[98]⟩ L :: oTree 1048576 bt S :: oPair w1.heap.size bt bm :: oRef 1048576 bm (0, [], [], []) :: []) W)
                    (first | exact ⟨by assumption, by assumption, by assumption⟩)
                    (first | fail)
                  all_goals (
                    go_wp2
                    go_roundw
                    case rel => exact ⟨q + 1, true, hlq, rfl, by go_num, HN.out _ rfl, by assumption⟩
                    case measure => simp [intOf]; omega)
                · have hs : (y.toList == x.toList) = false := by rw [str_eq]; simp [heq]
                  have HN : Hid (∀ b', b' = false → (b' = true ↔ x.data.toList ∈ (rawOf xs0).take (q + 1))) := fun b' h => HBn.out b' (by rw [h]; simp [heq])
                  clear HBn heq
                  go_wp2
                  go_region_held3 (fun W => W.cell? ⟨g', f' + q, none⟩ = some (.string y) ∧ W.cell? ⟨g1, f1 + a, none⟩ = some (.string x) ∧ In w (oStore sb bt ⟨#[98]⟩ L :: oTree 1048576 bt S :: oPair w1.heap.size bt bm :: oRef 1048576 bm (0, [], [], []) :: []) W)
                    (first | exact ⟨by assumption, by assumption, by assumption⟩)
                    (first | fail)
                  all_goals (
                    go_wp2
                    go_roundw
                    case rel => exact ⟨q + 1, false, hlq, rfl, by go_num, HN.out _ rfl, by assumption⟩
                    case measure => simp [intOf]; omega)
            · have hqk : q = xs0.length := by omega
              subst hqk
              have hiq : ¬ (xs0.length : Int) < (xs0.length : Int) := by omega
              have hall : (rawOf xs0).take xs0.length = rawOf xs0 := List.take_of_length_le (by simp [rawOf])
              have hbm : b = true ↔ x.data.toList ∈ L := by have := HB.out; rw [hall] at this; exact this.trans (HM.out _).symm
              have HF := Lib.hid (hI.bfind (sb := sb) (bt := bt) (p := ⟨#[98]⟩) (L := L) (by simp) x hxz)
              have hpos : decide ((0 : Int) < ((findN L x.data.toList : Nat) : Int)) = b := by
                cases b with
                | true => exact decide_eq_true (by have := find_pos.2 (hbm.1 rfl); omega)
                | false => exact decide_eq_false (fun h => by have := hbm.2 (find_pos.1 (by omega)); cases this)
              clear hbm hall HB HX0 HXa HZ0 hxz
              generalize findN L x.data.toList = NN at *
              cases b with
              | true =>
                have n1 : 0 < NN := by have := of_decide_eq_true hpos; omega
                go_wp2_with (go_at_call 24; with_reducible refine (HF.out).mono ?_; rintro e w4 ⟨rfl, rfl⟩)
                go_roundw
                case rel => exact ⟨a + 1, hlt, by go_num, hI⟩
                case measure => simp [intOf]; omega
              | false =>
                have n1 : NN = 0 := by have := of_decide_eq_false hpos; omega
                subst n1
                go_wp2_with (go_at_call 24; with_reducible refine (HF.out).mono ?_; rintro e w4 ⟨rfl, rfl⟩)
                go_roundw
                case rel => exact ⟨a + 1, hlt, by go_num, hI⟩
                case measure => simp [intOf]; omega
        · have hia : ¬ (a : Int) < (xs1.length : Int) := by omega
          have HL := Lib.hid (HLn.out _ hI)
          have hb := Lib.hid hI.back
          clear HX0 HX1 HZ0 HZ1 HM HLn hI
          go_wp2_with (go_at_call 23; with_reducible refine (HL.out).mono ?_; rintro e w4 ⟨rfl, rfl⟩)
          go_ret
          exact ⟨rfl, hb.out⟩

end Go.Proofs.YtchnbnmajagpjaaGreatDoor
