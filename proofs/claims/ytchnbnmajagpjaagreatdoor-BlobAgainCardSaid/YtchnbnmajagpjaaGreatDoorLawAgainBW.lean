/-
  BlobAgain: a store that is opened again gives each text the number that it had, and the next one to a new one: for every argument. No condition.
-/
import Derived.Deep.RegionHeld3
import Derived.Deep.QuietTactic
import Derived.Deep.DeepCutAuto
import Derived.Deep.CutBlock
import Derived.BigQuiet
import Derived.Test.YtchnbnmajagpjaaGreatDoorBLaw
namespace Go.Proofs.YtchnbnmajagpjaaGreatDoor
open Go.RowKit Go.Shelf Go.Maps

set_option maxRecDepth 100000 in
set_option maxHeartbeats 16000000 in
theorem blobAgain_walk (v0 : Value) (xs0 : List ByteArray) (hn0 : xs0.length ≤ maxLen) (hz0 : ∀ x ∈ xs0, x.size ≤ maxLen) (s1 : ByteArray) (_hs1 : s1.size ≤ maxLen) (w : World) (hr0 : ReadsO w w.heap.size v0 xs0) :
    Calls Tryz.prog 7 #[v0, .string s1] w (LawPost w) := by
  have HSh := Lib.hid (shownB_at w)
  have HBg : Hid (∀ W, Below w.heap.size w W → _) := fun W hb => begunN (w0 := w) 1048576 (by omega) (by omega) hb
  have hb0 : Below w.heap.size w w := Below.refl _ _
  obtain ⟨o0, c0', rfl, hx0⟩ := id hr0
  have HX0 : Hid (∀ W, Below w.heap.size w W → ∀ k (hk : k < xs0.length), ∃ g f, o0 = some ⟨g, f, none⟩ ∧ xs0.length ≤ c0' ∧ W.cell? ⟨g, f + k, none⟩ = some (.string xs0[k])) := fun W hb k hk => by
    obtain ⟨o', c', hv', hx'⟩ := hr0.below hb hb.size
    cases hv'
    obtain ⟨g, f, q1, _, q3, q4⟩ := hx' k _ (List.getElem?_eq_getElem hk)
    exact ⟨g, f, q1, q3, q4⟩
  clear hx0
  by_cases h30 : 30 < xs0.length
  · have d1 : decide (30 < (xs0.length : Int)) = true := by simp; omega
    have hlI : (xs0.length : Int) ≤ 9223372036854775807 := by unfold maxLen at hn0; omega
    clear hr0 hn0 hz0 HX0 h30
    go_enter Tryz.func7, Tryz.ntmps7
    go_wp2_with (first
      | (go_at_call 8; refine (HSh.out _ hb0).mono ?_; rintro e w2 ⟨rfl, hb2⟩)
      | (go_at_call 10; refine (HBg.out _ hb2).mono ?_; rintro e w1 ⟨bt, bm, rfl, h0⟩))
    go_ret
    exact ⟨rfl, h0.back⟩
  have d1 : decide (30 < (xs0.length : Int)) = false := by simp; omega
  by_cases h300 : 300 < s1.size
  · have d2 : decide (300 < (s1.size : Int)) = true := by simp; omega
    clear hr0 hn0 hz0 HX0 h30 h300
    go_enter Tryz.func7, Tryz.ntmps7
    go_wp2_with (first
      | (go_at_call 8; refine (HSh.out _ hb0).mono ?_; rintro e w2 ⟨rfl, hb2⟩)
      | (go_at_call 10; refine (HBg.out _ hb2).mono ?_; rintro e w1 ⟨bt, bm, rfl, h0⟩))
    go_ret
    exact ⟨rfl, h0.back⟩
  have d2 : decide (300 < (s1.size : Int)) = false := by simp; omega
  have hl30 : xs0.length ≤ 30 := by omega
  have hs300 : s1.size ≤ 300 := by omega
  have HZ0 := Lib.hid hz0
  clear hr0 hn0 hz0 h30 h300
  go_enter Tryz.func7, Tryz.ntmps7
  go_wp2_with (first
    | (go_at_call 8; refine (HSh.out _ hb0).mono ?_; rintro e w2 ⟨rfl, hb2⟩)
    | (go_at_call 10; refine (HBg.out _ hb2).mono ?_; rintro e w1 ⟨bt, bm, rfl, h0⟩))
  obtain ⟨c0, c1⟩ := h0.pairAt (pb := w1.heap.size) (bt := bt) (bm := bm) (by simp)
  have HO := Lib.hid (h0.bkNew (by omega) (by omega))
  clear h0 HSh HBg hb0 hb2
  go_wp2_with fail
  refine HO.out.mono ?_
  rintro e w2 ⟨sb, S1, rfl, h1, hB1, hg1⟩
  have HB1 := Lib.hid hB1
  have HG1 := Lib.hid hg1
  clear hB1 hg1 HO
  go_wp2
  go_loopw [10] (fun i wr => ∃ (k : Nat) (S : St), k ≤ xs0.length ∧ i = .int .i64 k ∧ Hid (BK S (allT ((rawOf xs0).take k)) 0 ∧ Good 1048576 (7 + k) S) ∧ In w (oStore sb bt ⟨#[98]⟩ (allT ((rawOf xs0).take k)) :: oTree 1048576 bt S :: oPair w1.heap.size bt bm :: oRef 1048576 bm (0, [], [], []) :: []) wr) (fun i _ => xs0.length - (intOf i).toNat)
  case atStart => exact ⟨0, S1, Nat.zero_le _, rfl, ⟨HB1.out, HG1.out⟩, h1⟩
  case round =>
    clear h1 HB1 HG1
    obtain ⟨k, S, hk, rfl, HS, hI⟩ := hrel
    by_cases hlt : k < xs0.length
    · obtain ⟨g, f, rfl, hcl, hcell⟩ := HX0.out wr hI.back k hlt
      have hkc : k < c0' := by omega
      have hik : (k : Int) < (xs0.length : Int) := by omega
      have hi0 : (0 : Int) ≤ (k : Int) := by omega
      have hnx := allT_next (raw_next hlt)
      obtain ⟨x, hx⟩ : ∃ x, x = xs0[k] := ⟨_, rfl⟩
      rw [← hx] at hcell hnx
      by_cases h300 : 300 < x.size
      · have d3 : decide (300 < (x.size : Int)) = true := by simp; omega
        have hb := Lib.hid hI.back
        clear hI HS hnx hx HX0 HZ0
        go_wp2
        go_ret
        exact ⟨rfl, hb.out⟩
      · have d3 : decide (300 < (x.size : Int)) = false := by simp; omega
        have hlen : (allT ((rawOf xs0).take k)).length ≤ 100 := by have := len_allT ((rawOf xs0).take k); rw [List.length_take] at this; omega
        have HId := Lib.hid (hI.bkId HS.out.1 HS.out.2 (by omega) hlen x (by omega) (roomy_many HS.out.1.short hlen (by have : x.data.toList.length = x.size := (by simp); omega)))
        rw [← hnx] at HId
        clear hI HS hnx hx hlen HX0 HZ0
        go_wp2_with (go_at_call 15; with_reducible refine HId.out.mono ?_; rintro e w3 ⟨rfl, S', h3, hB3, hg3⟩)
        go_roundw
        case rel => exact ⟨k + 1, S', hlt, by go_num, ⟨hB3, hg3⟩, h3⟩
        case measure => simp [intOf]; omega
    · have hkN : k = xs0.length := by omega
      subst hkN
      have hall : allT ((rawOf xs0).take xs0.length) = allT (rawOf xs0) := by rw [List.take_of_length_le (by simp [rawOf])]
      rw [hall] at HS hI
      obtain ⟨L, hL⟩ : ∃ L, L = allT (rawOf xs0) := ⟨_, rfl⟩
      rw [← hL] at HS hI
      have hlen : L.length ≤ xs0.length := by rw [hL]; have := len_allT (rawOf xs0); simpa [rawOf] using this
      clear hall hk hlt
      have HO2 := Lib.hid (hI.swap.bkOpen HS.out.1 HS.out.2 (by omega) (by omega))
      obtain ⟨c0, c1⟩ := hI.pairAt (pb := w1.heap.size) (bt := bt) (bm := bm) (by simp)
      clear hI HS hL
      go_wp2_with fail
      refine HO2.out.mono ?_
      rintro e w3 ⟨sb2, S2, rfl, h3, hB2, hg2⟩
      have HB2 := Lib.hid hB2
      have HG2 := Lib.hid hg2
      have HLa := Lib.hid (h3.blen (sb := sb2) (bt := bt) (p := ⟨#[98]⟩) (L := L) (by simp))
      have HLb := Lib.hid (h3.blen (sb := sb) (bt := bt) (p := ⟨#[98]⟩) (L := L) (by simp))
      clear hB2 hg2 HO2
      go_wp2_with (first
        | (go_at_call 23; with_reducible refine (HLa.out).mono ?_; rintro e w4 ⟨rfl, rfl⟩)
        | (go_at_call 23; with_reducible refine (HLb.out).mono ?_; rintro e w5 ⟨rfl, rfl⟩))
      clear HLa HLb
      go_loopw [13] (fun i wr => ∃ k : Nat, k ≤ xs0.length ∧ i = .int .i64 k ∧ In w (oStore sb2 bt ⟨#[98]⟩ L :: oTree 1048576 bt S2 :: oStore sb bt ⟨#[98]⟩ L :: oPair w1.heap.size bt bm :: oRef 1048576 bm (0, [], [], []) :: []) wr) (fun i _ => xs0.length - (intOf i).toNat)
      case atStart => exact ⟨0, Nat.zero_le _, rfl, h3⟩
      case round =>
        clear h3
        obtain ⟨k, hk, rfl, hI⟩ := hrel
        by_cases hlt : k < xs0.length
        · obtain ⟨g, f, rfl, hcl, hcell⟩ := HX0.out wr hI.back k hlt
          have hkc : k < c0' := by omega
          have hik : (k : Int) < (xs0.length : Int) := by omega
          have hi0 : (0 : Int) ≤ (k : Int) := by omega
          have hxz := HZ0.out xs0[k] (List.getElem_mem hlt)
          obtain ⟨x, hx⟩ : ∃ x, x = xs0[k] := ⟨_, rfl⟩
          rw [← hx] at hcell hxz
          have HFa : Hid (∀ W, In w (oStore sb2 bt ⟨#[98]⟩ L :: oTree 1048576 bt S2 :: oStore sb bt ⟨#[98]⟩ L :: oPair w1.heap.size bt bm :: oRef 1048576 bm (0, [], [], []) :: []) W → Calls Tryz.prog 24 #[.pointer (some ⟨sb2, 0, none⟩), .string x] W fun e w' => e = .returned (.int .i64 (findN L x.data.toList : Nat)) ∧ W = w') := fun W h => h.bfind (bt := bt) (p := ⟨#[98]⟩) (by simp) x hxz
          have HFb : Hid (∀ W, In w (oStore sb2 bt ⟨#[98]⟩ L :: oTree 1048576 bt S2 :: oStore sb bt ⟨#[98]⟩ L :: oPair w1.heap.size bt bm :: oRef 1048576 bm (0, [], [], []) :: []) W → Calls Tryz.prog 24 #[.pointer (some ⟨sb, 0, none⟩), .string x] W fun e w' => e = .returned (.int .i64 (findN L x.data.toList : Nat)) ∧ W = w') := fun W h => h.bfind (bt := bt) (p := ⟨#[98]⟩) (by simp) x hxz
          have hId : In w (oStore sb2 bt ⟨#[98]⟩ L :: oTree 1048576 bt S2 :: oStore sb bt ⟨#[98]⟩ L :: oPair w1.heap.size bt bm :: oRef 1048576 bm (0, [], [], []) :: []) wr.drew := hI.below (below_drew (Below.refl _ _))
          have hcd : wr.drew.cell? ⟨g, f + k, none⟩ = some (.string x) := hcell
          generalize findN L x.data.toList = N at *
          clear HX0 HZ0 hxz hx HB2 HG2
          go_wp2
          go_region_held3 (fun W => W.cell? ⟨g, f + k, none⟩ = some (.string x) ∧ In w (oStore sb2 bt ⟨#[98]⟩ L :: oTree 1048576 bt S2 :: oStore sb bt ⟨#[98]⟩ L :: oPair w1.heap.size bt bm :: oRef 1048576 bm (0, [], [], []) :: []) W)
            (first | exact ⟨by assumption, by assumption⟩)
            (first
              | (go_at_call 24; with_reducible refine (HFa.out _ (by assumption)).mono ?_; rintro e w4 ⟨rfl, rfl⟩)
              | (go_at_call 24; with_reducible refine (HFb.out _ (by assumption)).mono ?_; rintro e w5 ⟨rfl, rfl⟩))
          all_goals (
            go_wp2
            go_roundw
            case rel => exact ⟨k + 1, hlt, by go_num, by assumption⟩
            case measure => simp [intOf]; omega)
        · have hF := hI.bfind (sb := sb) (bt := bt) (p := ⟨#[98]⟩) (L := L) (by simp) s1 (by unfold maxLen; omega)
          have hId := hI.bkId HB2.out HG2.out (by omega) (by omega) s1 hs300 (roomy_many HB2.out.short (by omega) (by have : s1.data.toList.length = s1.size := (by simp); omega))
          have hik : ¬ (k : Int) < (xs0.length : Int) := by omega
          clear HX0 HZ0 HB2 HG2 hI
          by_cases hm : s1.data.toList ∈ L
          · rw [addT_mem hm] at hId
            have hpos := find_pos.2 hm
            have HF := Lib.hid hF
            have HId := Lib.hid hId
            clear hF hId hm
            generalize findN L s1.data.toList = N at *
            have d4 : decide ((0 : Int) < (N : Int)) = true := by simp; omega
            go_wp2_with (first
              | (go_at_call 24; with_reducible refine (HF.out).mono ?_; rintro e w4 ⟨rfl, rfl⟩)
              | (go_at_call 15; with_reducible refine HId.out.mono ?_; rintro e w5 ⟨rfl, S', h5, _⟩))
            go_ret
            exact ⟨rfl, h5.back⟩
          · rw [find_not hm] at hF
            rw [addT_new hm, find_new hm, Int.natCast_succ] at hId
            have HF := Lib.hid hF
            have HId := Lib.hid hId
            have HL : Hid (∀ S' W, In w (oStore sb2 bt ⟨#[98]⟩ (L ++ [s1.data.toList]) :: oTree 1048576 bt S' :: oStore sb bt ⟨#[98]⟩ L :: oPair w1.heap.size bt bm :: oRef 1048576 bm (0, [], [], []) :: []) W → Calls Tryz.prog 23 #[.pointer (some ⟨sb, 0, none⟩)] W fun e w' => e = .returned (.int .i64 L.length) ∧ W = w') := fun S' W h => h.blen (bt := bt) (p := ⟨#[98]⟩) (by simp)
            clear hF hId hm
            go_wp2_with (first
              | (go_at_call 24; with_reducible refine (HF.out).mono ?_; rintro e w4 ⟨rfl, rfl⟩)
              | (go_at_call 15; with_reducible refine HId.out.mono ?_; rintro e w5 ⟨rfl, S', h5, _⟩)
              | (go_at_call 23; with_reducible refine (HL.out _ _ h5).mono ?_; rintro e w6 ⟨rfl, rfl⟩))
            go_ret
            exact ⟨rfl, h5.back⟩

end Go.Proofs.YtchnbnmajagpjaaGreatDoor
