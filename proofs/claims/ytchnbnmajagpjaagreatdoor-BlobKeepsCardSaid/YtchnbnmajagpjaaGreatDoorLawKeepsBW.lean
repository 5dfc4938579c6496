/-
  BlobKeeps: numbers that were told ahead of a sync are the same texts' behind any crash: for every argument. No condition.
-/
import Derived.Deep.RegionHeld3
import Derived.Deep.QuietTactic
import Derived.Deep.DeepCutAuto
import Derived.Deep.CutBlock
import Derived.BigQuiet
import Derived.Test.YtchnbnmajagpjaaGreatDoorBLaw
namespace Go.Proofs.YtchnbnmajagpjaaGreatDoor
open Go.RowKit Go.Shelf Go.Maps

theorem foldT_more : ∀ (ts acc : List BS), ∃ r, ts.foldl addT acc = acc ++ r
  | [], acc => ⟨[], by simp⟩
  | t :: ts, acc => by
    obtain ⟨r, hr⟩ := foldT_more ts (addT acc t)
    rw [List.foldl_cons, hr]
    by_cases h : t ∈ acc
    · rw [addT_mem h]; exact ⟨r, rfl⟩
    · rw [addT_new h]; exact ⟨[t] ++ r, by simp⟩
/-- What the first ones of a row give stands first. -/
theorem allT_first (ts : List BS) (k : Nat) : ∃ r, allT ts = allT (ts.take k) ++ r := by
  obtain ⟨r, hr⟩ := foldT_more (ts.drop k) (allT (ts.take k))
  refine ⟨r, ?_⟩
  rw [← hr]
  unfold allT
  rw [← List.foldl_append, List.take_append_drop]
theorem allT_among {ts : List BS} {k m : Nat} {s : BS} (h : s ∈ ts.take k) (hm : (allT (ts.take k)).length ≤ m) : s ∈ (allT ts).take m := by
  obtain ⟨r, hr⟩ := allT_first ts k
  rw [hr, List.take_append]
  exact List.mem_append_left _ (by rw [List.take_of_length_le hm]; exact mem_allT.2 h)
theorem raw_among {xs : List ByteArray} {i k : Nat} (hi : i < xs.length) (hk : i < k) : xs[i].data.toList ∈ (rawOf xs).take k := by
  have h1 := raw_next hi
  have h2 : ((rawOf xs).take k)[i]? = some xs[i].data.toList := by rw [List.getElem?_take_of_lt hk]; exact h1
  exact List.mem_of_getElem? h2

set_option maxRecDepth 100000 in
set_option maxHeartbeats 16000000 in
theorem blobKeeps_walk (v0 : Value) (xs0 : List ByteArray) (hn0 : xs0.length ≤ maxLen) (hz0 : ∀ x ∈ xs0, x.size ≤ maxLen) (i1 : Int) (hi1 : -9223372036854775808 ≤ i1 ∧ i1 ≤ 9223372036854775807) (i2 : Int) (_hi2 : -9223372036854775808 ≤ i2 ∧ i2 ≤ 9223372036854775807) (i3 : Int) (hi3 : -9223372036854775808 ≤ i3 ∧ i3 ≤ 9223372036854775807) (w : World) (hr0 : ReadsO w w.heap.size v0 xs0) :
    Calls Tryz.prog 5 #[v0, .int .i64 i1, .int .i64 i2, .int .i64 i3] w (LawPost w) := by
  have HSh := Lib.hid (shownB_at w)
  have HBg : Hid (∀ W, Below w.heap.size w W → _) := fun W hb => begunN (w0 := w) 1048576 (by omega) (by omega) hb
  have hb0 : Below w.heap.size w w := Below.refl _ _
  obtain ⟨o0, c0', rfl, hx0⟩ := id hr0
  have HX0 : Hid (∀ W, Below w.heap.size w W → ∀ k (hk : k < xs0.length), ∃ g f, o0 = some ⟨g, f, none⟩ ∧ xs0.length ≤ c0' ∧ W.cell? ⟨g, f + k, none⟩ = some (.string xs0[k])) := fun W hb k hk => by
    obtain ⟨o', c', hv', hx'⟩ := hr0.below hb hb.size
    cases hv'
    obtain ⟨g, f, q1, _, q3, q4⟩ := hx' k _ (List.getElem?_eq_getElem hk)
    exact ⟨g, f, q1, q3, q4⟩
  clear hx0
  by_cases h40 : 40 < xs0.length
  · have d1 : decide (40 < (xs0.length : Int)) = true := by simp; omega
    have hlI : (xs0.length : Int) ≤ 9223372036854775807 := by unfold maxLen at hn0; omega
    clear hr0 hn0 hz0 HX0 h40 hi1 hi3
    go_enter Tryz.func5, Tryz.ntmps5
    go_wp2_with (first
      | (go_at_call 8; refine (HSh.out _ hb0).mono ?_; rintro e w2 ⟨rfl, hb2⟩)
      | (go_at_call 10; refine (HBg.out _ hb2).mono ?_; rintro e w1 ⟨bt, bm, rfl, h0⟩))
    go_ret
    exact ⟨rfl, h0.back⟩
  have d1 : decide (40 < (xs0.length : Int)) = false := by simp; omega
  have hl40 : xs0.length ≤ 40 := by omega
  have HZ0 := Lib.hid hz0
  obtain ⟨K, hK0⟩ : ∃ K, K = pickZ i1 (xs0.length + 1) := ⟨_, rfl⟩
  have hKn : K ≤ xs0.length := by rw [hK0]; have := Nat.mod_lt (if i1 < 0 then (-(i1 + 1)).toNat else i1.toNat) (show 0 < xs0.length + 1 by omega); unfold pickZ; omega
  have HPk : Hid (∀ W, Calls Tryz.prog 11 #[.int .i64 i1, .int .i64 ((xs0.length : Int) + 1)] W fun e w' => e = .returned (.int .i64 (K : Nat)) ∧ W = w') := fun W => by
    rw [hK0]; exact pick_any i1 hi1 (xs0.length + 1) (by omega) (by omega) W
  clear hr0 hn0 hz0 h40 hK0
  go_enter Tryz.func5, Tryz.ntmps5
  go_wp2_with (first
    | (go_at_call 8; refine (HSh.out _ hb0).mono ?_; rintro e w2 ⟨rfl, hb2⟩)
    | (go_at_call 10; refine (HBg.out _ hb2).mono ?_; rintro e w1 ⟨bt, bm, rfl, h0⟩))
  obtain ⟨c0, c1⟩ := h0.pairAt (pb := w1.heap.size) (bt := bt) (bm := bm) (by simp)
  have HO := Lib.hid (h0.bkNew (by omega) (by omega))
  clear h0 HSh HBg hb0 hb2
  go_wp2_with fail
  refine HO.out.mono ?_
  rintro e w2 ⟨sb, S1, rfl, h1, hB1, hg1⟩
  have HB1 := Lib.hid hB1
  have HG1 := Lib.hid hg1
  clear hB1 hg1 HO
  go_wp2_with (go_at_call 11; refine (HPk.out _).mono ?_; rintro e w9 ⟨rfl, rfl⟩)
  clear HPk
  go_loopw [15] (fun i wr => ∃ (k c : Nat) (S : St), k ≤ xs0.length ∧ i = .int .i64 k ∧ Hid (BK S (allT ((rawOf xs0).take k)) c ∧ Good 1048576 (7 + k) S ∧ (K ≤ k → (allT ((rawOf xs0).take K)).length ≤ c)) ∧ In w (oStore sb bt ⟨#[98]⟩ (allT ((rawOf xs0).take k)) :: oTree 1048576 bt S :: oPair w1.heap.size bt bm :: oRef 1048576 bm (0, [], [], []) :: []) wr) (fun i _ => xs0.length - (intOf i).toNat)
  case atStart => exact ⟨0, 0, S1, Nat.zero_le _, rfl, ⟨HB1.out, HG1.out, fun h => by have h0 : K = 0 := (by omega); rw [h0]; exact Nat.le_refl 0⟩, h1⟩
  case round =>
    clear h1 HB1 HG1
    obtain ⟨k, c, S, hk, rfl, HS, hI⟩ := hrel
    by_cases hlt : k < xs0.length
    · obtain ⟨g, f, rfl, hcl, hcell⟩ := HX0.out wr hI.back k hlt
      have hkc : k < c0' := by omega
      have hik : (k : Int) < (xs0.length : Int) := by omega
      have hi0 : (0 : Int) ≤ (k : Int) := by omega
      have hnx := allT_next (raw_next hlt)
      obtain ⟨x, hx⟩ : ∃ x, x = xs0[k] := ⟨_, rfl⟩
      rw [← hx] at hcell hnx
      by_cases h300 : 300 < x.size
      · have d3 : decide (300 < (x.size : Int)) = true := by simp; omega
        have hb := Lib.hid hI.back
        clear hI HS hnx hx HX0 HZ0
        go_wp2
        go_ret
        exact ⟨rfl, hb.out⟩
      · have d3 : decide (300 < (x.size : Int)) = false := by simp; omega
        have hlen : (allT ((rawOf xs0).take k)).length ≤ 100 := by have := len_allT ((rawOf xs0).take k); rw [List.length_take] at this; omega
        have HId := Lib.hid (hI.bkId HS.out.1 HS.out.2.1 (by omega) hlen x (by omega) (roomy_many HS.out.1.short hlen (by have : x.data.toList.length = x.size := (by simp); omega)))
        rw [← hnx] at HId
        by_cases hkK : k + 1 = K
        · have HS2 : Hid (∀ S' W, In w (oStore sb bt ⟨#[98]⟩ (allT ((rawOf xs0).take (k + 1))) :: oTree 1048576 bt S' :: oPair w1.heap.size bt bm :: oRef 1048576 bm (0, [], [], []) :: []) W → Good 1048576 (7 + k + 1) S' → Calls Tryz.prog 26 #[.pointer (some ⟨bt, 0, none⟩)] W fun r w' => r = .returned (.tuple #[]) ∧ In w (oStore sb bt ⟨#[98]⟩ (allT ((rawOf xs0).take (k + 1))) :: oTree 1048576 bt (opS S') :: oPair w1.heap.size bt bm :: oRef 1048576 bm (0, [], [], []) :: []) w') := fun S' W h hg => (h.swap.sync hg).mono fun _ _ q => ⟨q.1, q.2.swap⟩
          have HBS : Hid (∀ S', BK S' (allT ((rawOf xs0).take (k + 1))) c → Good 1048576 (7 + k + 1) S' → BK (opS S') (allT ((rawOf xs0).take (k + 1))) (allT ((rawOf xs0).take (k + 1))).length) := fun S' h hg => h.sync hg
          have HKc : Hid ((allT ((rawOf xs0).take K)).length ≤ (allT ((rawOf xs0).take (k + 1))).length) := by show _ ≤ _; rw [hkK]; exact Nat.le_refl _
          have e1 : (((k : Int) + 1) == (K : Int)) = true := by simp; omega
          clear hI HS hnx hx hlen HX0 HZ0
          go_wp2_with (first
            | (go_at_call 15; with_reducible refine HId.out.mono ?_; rintro e w3 ⟨rfl, S', h3, hB3, hg3⟩; obtain ⟨p0, p1⟩ := h3.pairAt (pb := w1.heap.size) (bt := bt) (bm := bm) (by simp))
            | (go_at_call 26; with_reducible refine (HS2.out _ _ h3 hg3).mono ?_; rintro e w4 ⟨rfl, h4⟩))
          go_roundw
          case rel => exact ⟨k + 1, _, _, hlt, by go_num, ⟨HBS.out _ hB3 hg3, hg3.opS, fun _ => HKc.out⟩, h4⟩
          case measure => simp [intOf]; omega
        · have hkK' : k + 1 ≠ K := hkK
          have HKc : Hid (K ≤ k + 1 → (allT ((rawOf xs0).take K)).length ≤ c) := fun h => HS.out.2.2 (by omega)
          have e1 : (((k : Int) + 1) == (K : Int)) = false := by simp; omega
          clear hI HS hnx hx hlen HX0 HZ0
          go_wp2_with (first
            | (go_at_call 15; with_reducible refine HId.out.mono ?_; rintro e w3 ⟨rfl, S', h3, hB3, hg3⟩; obtain ⟨p0, p1⟩ := h3.pairAt (pb := w1.heap.size) (bt := bt) (bm := bm) (by simp)))
          go_roundw
          case rel => exact ⟨k + 1, c, S', hlt, by go_num, ⟨hB3, hg3, HKc.out⟩, h3⟩
          case measure => simp [intOf]; omega
    · have hkN : k = xs0.length := by omega
      subst hkN
      have hall : (rawOf xs0).take xs0.length = rawOf xs0 := List.take_of_length_le (by simp [rawOf])
      rw [hall] at HS hI
      have hlen : (allT (rawOf xs0)).length ≤ xs0.length := by have := len_allT (rawOf xs0); simpa [rawOf] using this
      have HM : Hid (∀ m, c ≤ m → ∀ i (hi : i < xs0.length), i < K → findN ((allT (rawOf xs0)).take m) xs0[i].data.toList = findN (allT (rawOf xs0)) xs0[i].data.toList) := fun m hm i hi hiK => find_take (allT_among (raw_among hi hiK) (Nat.le_trans (HS.out.2.2 hKn) hm))
      obtain ⟨L, hL⟩ : ∃ L, L = allT (rawOf xs0) := ⟨_, rfl⟩
      rw [← hL] at HS hI hlen HM
      clear hall hk hlt
      have HC := Lib.hid (hI.swap.crash HS.out.2.1 i2 i3 (by omega))
      have HO2 : Hid (∀ W, In w (oTree 1048576 bt (opC S i2 i3) :: oStore sb bt ⟨#[98]⟩ L :: oPair w1.heap.size bt bm :: oRef 1048576 bm (0, [], [], []) :: []) W → _) := fun W h => h.bkCrashed (many := i2) (part := i3) HS.out.1 HS.out.2.1 (by omega) (by omega)
      obtain ⟨p0, p1⟩ := hI.pairAt (pb := w1.heap.size) (bt := bt) (bm := bm) (by simp)
      clear hI HS hL
      go_wp2_with fail
      refine HC.out.mono ?_
      rintro e w3 ⟨rfl, h3⟩
      obtain ⟨p2, p3⟩ := h3.pairAt (pb := w1.heap.size) (bt := bt) (bm := bm) (by simp)
      have HO3 := Lib.hid (HO2.out _ h3)
      clear HC HO2 h3
      go_wp2_with fail
      refine HO3.out.mono ?_
      rintro e w4 ⟨sb2, m, rfl, hcm, hmL, S2, h4⟩
      have hml : (L.take m).length = m := by rw [List.length_take]; omega
      have hLa := h4.blen (sb := sb2) (bt := bt) (p := ⟨#[98]⟩) (L := L.take m) (by simp)
      rw [hml] at hLa
      have HLa := Lib.hid hLa
      clear hLa
      have HLb := Lib.hid (h4.blen (sb := sb) (bt := bt) (p := ⟨#[98]⟩) (L := L) (by simp))
      have dml : decide ((L.length : Int) < (m : Int)) = false := by simp; omega
      have nml : ¬ L.length < m := by omega
      have hmm : Hid (∀ i (hi : i < xs0.length), i < K → findN (L.take m) xs0[i].data.toList = findN L xs0[i].data.toList) := HM.out m hcm
      clear HO3 HM
      go_wp2_with (first
        | (go_at_call 23; with_reducible refine (HLa.out).mono ?_; rintro e w5 ⟨rfl, rfl⟩)
        | (go_at_call 23; with_reducible refine (HLb.out).mono ?_; rintro e w6 ⟨rfl, rfl⟩))
      clear HLa HLb
      go_loopw [18] (fun i wr => ∃ k : Nat, k ≤ m ∧ i = .int .i64 ((k : Int) + 1) ∧ In w (oStore sb2 bt ⟨#[98]⟩ (L.take m) :: oTree 1048576 bt S2 :: oStore sb bt ⟨#[98]⟩ L :: oPair w1.heap.size bt bm :: oRef 1048576 bm (0, [], [], []) :: []) wr) (fun i _ => m + 1 - (intOf i).toNat)
      case atStart => exact ⟨0, Nat.zero_le _, rfl, h4⟩
      case round =>
        clear h4
        obtain ⟨k, hk, rfl, hI⟩ := hrel
        have hLa := hI.blen (sb := sb2) (bt := bt) (p := ⟨#[98]⟩) (L := L.take m) (by simp)
        rw [hml] at hLa
        have HLa := Lib.hid hLa
        clear hLa
        by_cases hlt : k < m
        · have dk : decide ((k : Int) + 1 ≤ (m : Int)) = true := by simp; omega
          have hkL : k < L.length := by omega
          have hy := List.getElem?_eq_getElem hkL
          have hy2 : (L.take m)[k]? = some L[k] := by rw [List.getElem?_take_of_lt hlt]; exact hy
          have hTa := hI.btext (sb := sb) (bt := bt) (p := ⟨#[98]⟩) (L := L) (by simp) (by omega) ((k : Int) + 1) (by omega)
          have hTb := hI.btext (sb := sb2) (bt := bt) (p := ⟨#[98]⟩) (L := L.take m) (by simp) (by omega) ((k : Int) + 1) (by omega)
          rw [text_in hy] at hTa
          rw [text_in hy2] at hTb
          have HTa := Lib.hid hTa
          have HTb := Lib.hid hTb
          clear HX0 HZ0 hmm hTa hTb hy hy2
          generalize txt L[k] = sp at *
          have hq : (sp.toList == sp.toList) = true := by simp
          go_wp2_with (first
            | (go_at_call 23; with_reducible refine (HLa.out).mono ?_; rintro e w5 ⟨rfl, rfl⟩)
            | (go_at_call 21; with_reducible refine (HTa.out).mono ?_; rintro e w6 ⟨rfl, rfl⟩)
            | (go_at_call 21; with_reducible refine (HTb.out).mono ?_; rintro e w7 ⟨rfl, rfl⟩))
          go_roundw
          case rel => exact ⟨k + 1, hlt, by go_num, hI⟩
          case measure => simp [intOf]; omega
        · have dk : decide ((k : Int) + 1 ≤ (m : Int)) = false := by simp; omega
          go_wp2_with (first
            | (go_at_call 23; with_reducible refine (HLa.out).mono ?_; rintro e w5 ⟨rfl, rfl⟩))
          clear HLa
          go_loopw [23] (fun i wr => ∃ k : Nat, k ≤ K ∧ i = .int .i64 k ∧ In w (oStore sb2 bt ⟨#[98]⟩ (L.take m) :: oTree 1048576 bt S2 :: oStore sb bt ⟨#[98]⟩ L :: oPair w1.heap.size bt bm :: oRef 1048576 bm (0, [], [], []) :: []) wr) (fun i _ => K - (intOf i).toNat)
          case atStart => exact ⟨0, Nat.zero_le _, rfl, hI⟩
          case round =>
            clear hI
            obtain ⟨k, hk, rfl, hI⟩ := hrel
            by_cases hlK : k < K
            · have hlt : k < xs0.length := by omega
              obtain ⟨g, f, rfl, hcl, hcell⟩ := HX0.out wr hI.back k hlt
              have hkc : k < c0' := by omega
              have hik : (k : Int) < (xs0.length : Int) := by omega
              have hiK : (k : Int) < (K : Int) := by omega
              have hi0 : (0 : Int) ≤ (k : Int) := by omega
              have hxz := HZ0.out xs0[k] (List.getElem_mem hlt)
              have hff := hmm.out k hlt hlK
              obtain ⟨x, hx⟩ : ∃ x, x = xs0[k] := ⟨_, rfl⟩
              rw [← hx] at hcell hxz hff
              have HFa : Hid (∀ W, In w (oStore sb2 bt ⟨#[98]⟩ (L.take m) :: oTree 1048576 bt S2 :: oStore sb bt ⟨#[98]⟩ L :: oPair w1.heap.size bt bm :: oRef 1048576 bm (0, [], [], []) :: []) W → Calls Tryz.prog 24 #[.pointer (some ⟨sb2, 0, none⟩), .string x] W fun e w' => e = .returned (.int .i64 (findN L x.data.toList : Nat)) ∧ W = w') := fun W h => by
                have := h.bfind (sb := sb2) (bt := bt) (p := ⟨#[98]⟩) (L := L.take m) (by simp) x hxz
                rw [hff] at this
                exact this
              have HFb : Hid (∀ W, In w (oStore sb2 bt ⟨#[98]⟩ (L.take m) :: oTree 1048576 bt S2 :: oStore sb bt ⟨#[98]⟩ L :: oPair w1.heap.size bt bm :: oRef 1048576 bm (0, [], [], []) :: []) W → Calls Tryz.prog 24 #[.pointer (some ⟨sb, 0, none⟩), .string x] W fun e w' => e = .returned (.int .i64 (findN L x.data.toList : Nat)) ∧ W = w') := fun W h => h.bfind (bt := bt) (p := ⟨#[98]⟩) (L := L) (by simp) x hxz
              have hId : In w (oStore sb2 bt ⟨#[98]⟩ (L.take m) :: oTree 1048576 bt S2 :: oStore sb bt ⟨#[98]⟩ L :: oPair w1.heap.size bt bm :: oRef 1048576 bm (0, [], [], []) :: []) wr.drew := hI.below (below_drew (Below.refl _ _))
              have hcd : wr.drew.cell? ⟨g, f + k, none⟩ = some (.string x) := hcell
              generalize findN L x.data.toList = NN at *
              clear HX0 HZ0 hxz hx hmm hff
              go_wp2
              go_region_held3 (fun W => W.cell? ⟨g, f + k, none⟩ = some (.string x) ∧ In w (oStore sb2 bt ⟨#[98]⟩ (L.take m) :: oTree 1048576 bt S2 :: oStore sb bt ⟨#[98]⟩ L :: oPair w1.heap.size bt bm :: oRef 1048576 bm (0, [], [], []) :: []) W)
                (first | exact ⟨by assumption, by assumption⟩)
                (first
                  | (go_at_call 24; with_reducible refine (HFa.out _ (by assumption)).mono ?_; rintro e w4 ⟨rfl, rfl⟩)
                  | (go_at_call 24; with_reducible refine (HFb.out _ (by assumption)).mono ?_; rintro e w5 ⟨rfl, rfl⟩))
              all_goals (
                go_wp2
                go_roundw
                case rel => exact ⟨k + 1, hlK, by go_num, by assumption⟩
                case measure => simp [intOf]; omega)
            · have hiK : ¬ (k : Int) < (K : Int) := by omega
              have hb := Lib.hid hI.back
              clear hI HX0 HZ0 hmm
              go_wp2
              go_ret
              exact ⟨rfl, hb.out⟩

end Go.Proofs.YtchnbnmajagpjaaGreatDoor
