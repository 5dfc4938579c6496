/-
  BlobOne: two texts have one number just if they are one; each number's text has that number: for every argument. No condition.
-/
import Derived.Deep.RegionHeld3
import Derived.Deep.QuietTactic
import Derived.Deep.DeepCutAuto
import Derived.Deep.CutBlock
import Derived.BigQuiet
import Derived.Test.YtchnbnmajagpjaaGreatDoorBLaw
namespace Go.Proofs.YtchnbnmajagpjaaGreatDoor
open Go.RowKit Go.Shelf Go.Maps

/-- A row of numbers of the call's own. -/
abbrev oNums (v : Value) (ns : List Int) : Own := oRow 3 1 (fun i : Int => [.int .i64 i]) v ns
theorem rowInts : RowT 54 3 1 := rowT_of (.int .i64 0) 8 Tryz.underlying54 (by kernel_rfl) (by decide) rfl (by decide)
def numsT (ts : List BS) : List Int := ts.map fun t => ((findN (allT ts) t : Nat) : Int)
theorem numsT_next {ts : List BS} {k : Nat} {t : BS} (h : ts[k]? = some t) : numsT (ts.take (k + 1)) = numsT (ts.take k) ++ [((findN (allT (ts.take (k + 1))) t : Nat) : Int)] := by
  have e := allT_next h
  unfold numsT
  have e2 : ts.take (k + 1) = ts.take k ++ [t] := by rw [List.take_add_one, h]; rfl
  conv => lhs; arg 2; rw [e2]
  rw [List.map_append, e]
  congr 1
  refine List.map_congr_left fun s hs => ?_
  rw [addT_find t (mem_allT.2 hs)]
theorem text_find {L : List BS} {t : BS} (h : t ∈ L) : textAt L ((findN L t : Nat) : Int) = (txt t, true) := by
  have hp := find_pos.2 h
  have h1 := find_get h
  obtain ⟨m, hm⟩ : ∃ m, findN L t = m + 1 := ⟨findN L t - 1, by omega⟩
  rw [hm] at h1 ⊢
  rw [Nat.add_sub_cancel] at h1
  exact text_in h1
/-- What lies where in a row of numbers. -/
theorem In.numAt {w0 w : World} {l : List Own} {v : Value} {ns : List Int} (h : In w0 l w) (hm : oNums v ns ∈ l) : ∃ o c, v = .slice o ns.length c ∧ ns.length ≤ c ∧ ∀ k y, ns[k]? = some y → ∃ g, o = some ⟨g, 0, none⟩ ∧ w.cell? ⟨g, k, none⟩ = some (.int .i64 y) := by
  obtain ⟨o, c, hv, q1, q2, q3, q4⟩ := h.row hm (fun _ => rfl)
  refine ⟨o, c, hv, q1, fun k y hk => ?_⟩
  obtain ⟨g, hg, hc⟩ := q4 k y hk
  have := hc 0 (by omega)
  rw [Nat.mul_one, Nat.add_zero] at this
  exact ⟨g, hg, this⟩

set_option maxRecDepth 100000 in
set_option maxHeartbeats 16000000 in
theorem blobOne_walk (v0 : Value) (xs0 : List ByteArray) (hn0 : xs0.length ≤ maxLen) (hz0 : ∀ x ∈ xs0, x.size ≤ maxLen) (w : World) (hr0 : ReadsO w w.heap.size v0 xs0) :
    Calls Tryz.prog 4 #[v0] w (LawPost w) := by
  have HSh := Lib.hid (shownB_at w)
  have HBg : Hid (∀ W, Below w.heap.size w W → _) := fun W hb => begunN (w0 := w) 1048576 (by omega) (by omega) hb
  have hb0 : Below w.heap.size w w := Below.refl _ _
  obtain ⟨o0, c0', rfl, hx0⟩ := id hr0
  have HX0 : Hid (∀ W, Below w.heap.size w W → ∀ k (hk : k < xs0.length), ∃ g f, o0 = some ⟨g, f, none⟩ ∧ xs0.length ≤ c0' ∧ W.cell? ⟨g, f + k, none⟩ = some (.string xs0[k])) := fun W hb k hk => by
    obtain ⟨o', c', hv', hx'⟩ := hr0.below hb hb.size
    cases hv'
    obtain ⟨g, f, q1, _, q3, q4⟩ := hx' k _ (List.getElem?_eq_getElem hk)
    exact ⟨g, f, q1, q3, q4⟩
  clear hx0
  by_cases h40 : 40 < xs0.length
  · have d1 : decide (40 < (xs0.length : Int)) = true := by simp; omega
    have hlI : (xs0.length : Int) ≤ 9223372036854775807 := by unfold maxLen at hn0; omega
    clear hr0 hn0 hz0 HX0 h40
    go_enter Tryz.func4, Tryz.ntmps4
    go_wp2_with (first
      | (go_at_call 8; refine (HSh.out _ hb0).mono ?_; rintro e w2 ⟨rfl, hb2⟩)
      | (go_at_call 10; refine (HBg.out _ hb2).mono ?_; rintro e w1 ⟨bt, bm, rfl, h0⟩))
    go_ret
    exact ⟨rfl, h0.back⟩
  have d1 : decide (40 < (xs0.length : Int)) = false := by simp; omega
  have hl40 : xs0.length ≤ 40 := by omega
  have HZ0 := Lib.hid hz0
  clear hr0 hn0 hz0 h40
  go_enter Tryz.func4, Tryz.ntmps4
  go_wp2_with (first
    | (go_at_call 8; refine (HSh.out _ hb0).mono ?_; rintro e w2 ⟨rfl, hb2⟩)
    | (go_at_call 10; refine (HBg.out _ hb2).mono ?_; rintro e w1 ⟨bt, bm, rfl, h0⟩))
  obtain ⟨c0, c1⟩ := h0.pairAt (pb := w1.heap.size) (bt := bt) (bm := bm) (by simp)
  have HO := Lib.hid (h0.bkNew (by omega) (by omega))
  clear h0 HSh HBg hb0 hb2
  go_wp2_with fail
  refine HO.out.mono ?_
  rintro e w2 ⟨sb, S1, rfl, h1, hB1, hg1⟩
  have HB1 := Lib.hid hB1
  have HG1 := Lib.hid hg1
  clear hB1 hg1 HO
  go_wp2
  go_loopw [8, 9] (fun iv i wr => ∃ (k : Nat) (S : St) (io : Option Addr) (ic : Nat), k ≤ xs0.length ∧ i = .int .i64 k ∧ iv = .slice io k ic ∧ Hid (BK S (allT ((rawOf xs0).take k)) 0 ∧ Good 1048576 (7 + k) S) ∧ In w (oStore sb bt ⟨#[98]⟩ (allT ((rawOf xs0).take k)) :: oTree 1048576 bt S :: oNums (.slice io k ic) (numsT ((rawOf xs0).take k)) :: oPair w1.heap.size bt bm :: oRef 1048576 bm (0, [], [], []) :: []) wr) (fun _ i _ => xs0.length - (intOf i).toNat)
  case atStart => exact ⟨0, S1, none, 0, Nat.zero_le _, rfl, rfl, ⟨HB1.out, HG1.out⟩, ((h1.empty 3 1 (fun i : Int => [.int .i64 i])).second)⟩
  case round =>
    clear h1 HB1 HG1
    obtain ⟨k, S, io, ic, hk, rfl, rfl, HS, hI⟩ := hrel
    by_cases hlt : k < xs0.length
    · obtain ⟨g, f, rfl, hcl, hcell⟩ := HX0.out wr hI.back k hlt
      have hkc : k < c0' := by omega
      have hik : (k : Int) < (xs0.length : Int) := by omega
      have hi0 : (0 : Int) ≤ (k : Int) := by omega
      have hnx := allT_next (raw_next hlt)
      have hnn := numsT_next (raw_next hlt)
      have hself : xs0[k].data.toList ∈ allT ((rawOf xs0).take (k + 1)) := by rw [hnx]; exact addT_self _ _
      have hnl : (numsT ((rawOf xs0).take k)).length = k := by unfold numsT rawOf; rw [List.length_map, List.length_take, List.length_map]; omega
      obtain ⟨x, hx⟩ : ∃ x, x = xs0[k] := ⟨_, rfl⟩
      rw [← hx] at hcell hnx hnn hself
      by_cases h300 : 300 < x.size
      · have d3 : decide (300 < (x.size : Int)) = true := by simp; omega
        have hb := Lib.hid hI.back
        clear hI HS hnx hx HX0 HZ0 hnn hself hnl
        go_wp2
        go_ret
        exact ⟨rfl, hb.out⟩
      · have d3 : decide (300 < (x.size : Int)) = false := by simp; omega
        have hlen : (allT ((rawOf xs0).take k)).length ≤ 100 := by have := len_allT ((rawOf xs0).take k); rw [List.length_take] at this; omega
        have HId := hI.bkId HS.out.1 HS.out.2 (by omega) hlen x (by omega) (roomy_many HS.out.1.short hlen (by have : x.data.toList.length = x.size := (by simp); omega))
        rw [← hnx] at HId
        have hlen2 : (allT ((rawOf xs0).take (k + 1))).length ≤ 100 := by have := len_allT ((rawOf xs0).take (k + 1)); rw [List.length_take] at this; omega
        have htf := text_find hself
        have htx : txt x.data.toList = x := txt_toList x
        rw [htx] at htf
        have hle := find_le (allT ((rawOf xs0).take (k + 1))) x.data.toList
        obtain ⟨L', hL'⟩ : ∃ L', L' = allT ((rawOf xs0).take (k + 1)) := ⟨_, rfl⟩
        rw [← hL'] at HId htf hle hnn hlen2
        have HT : Hid (∀ S' W, In w (oStore sb bt ⟨#[98]⟩ L' :: oTree 1048576 bt S' :: oNums (.slice io k ic) (numsT ((rawOf xs0).take k)) :: oPair w1.heap.size bt bm :: oRef 1048576 bm (0, [], [], []) :: []) W → Calls Tryz.prog 21 #[.pointer (some ⟨sb, 0, none⟩), .int .i64 (findN L' x.data.toList : Nat)] W fun e w' => e = .returned (.tuple #[.string x, .bool true]) ∧ W = w') := fun S' W h => by
          have := h.btext (sb := sb) (bt := bt) (p := ⟨#[98]⟩) (L := L') (by simp) (by omega) ((findN L' x.data.toList : Nat) : Int) (by omega)
          rw [htf] at this
          exact this
        have HF : Hid (∀ S' W, In w (oStore sb bt ⟨#[98]⟩ L' :: oTree 1048576 bt S' :: oNums (.slice io k ic) (numsT ((rawOf xs0).take k)) :: oPair w1.heap.size bt bm :: oRef 1048576 bm (0, [], [], []) :: []) W → Calls Tryz.prog 24 #[.pointer (some ⟨sb, 0, none⟩), .string x] W fun e w' => e = .returned (.int .i64 (findN L' x.data.toList : Nat)) ∧ W = w') := fun S' W h => h.bfind (bt := bt) (p := ⟨#[98]⟩) (by simp) x (by unfold maxLen; omega)
        have HC : Hid (∀ S' W, In w (oStore sb bt ⟨#[98]⟩ L' :: oTree 1048576 bt S' :: oNums (.slice io k ic) (numsT ((rawOf xs0).take k)) :: oPair w1.heap.size bt bm :: oRef 1048576 bm (0, [], [], []) :: []) W → W.cell? ⟨g, f + k, none⟩ = some (.string x)) := fun S' W h => by
          obtain ⟨g', f', q1, _, q3⟩ := HX0.out W h.back k hlt
          cases q1
          rw [hx]; exact q3
        have HP : Hid (∀ S' W, In w (oStore sb bt ⟨#[98]⟩ L' :: oTree 1048576 bt S' :: oNums (.slice io k ic) (numsT ((rawOf xs0).take k)) :: oPair w1.heap.size bt bm :: oRef 1048576 bm (0, [], [], []) :: []) W → ∃ io' ic' W', (Builtin.append_ #[54, 54] 54 #[.slice io k ic, .slice (some ⟨W.heap.size, 0, none⟩) 1 1]).run Tryz.prog (W.alloc (.cells #[.int .i64 (findN L' x.data.toList : Nat)] 3)) = .ok (.slice io' (k + 1) ic') W' ∧
            In w (oStore sb bt ⟨#[98]⟩ (allT ((rawOf xs0).take (k + 1))) :: oTree 1048576 bt S' :: oNums (.slice io' (k + 1) ic') (numsT ((rawOf xs0).take (k + 1))) :: oPair w1.heap.size bt bm :: oRef 1048576 bm (0, [], [], []) :: []) W') := fun S' W h => by
          obtain ⟨io', ic', W', hrun, h6⟩ := In.push rowInts h.third ((findN L' x.data.toList : Nat) : Int) rfl (by simp [Value.oneCell']) (by omega) 54
          rw [hnl] at hrun h6
          rw [hnn, ← hL']
          exact ⟨io', ic', W', hrun, h6.second⟩
        have HId := Lib.hid HId
        have HBK : Hid (∀ S', BK S' L' 0 → BK S' (allT ((rawOf xs0).take (k + 1))) 0) := fun S' h => by rw [← hL']; exact h
        clear hI HS hnx hx hlen HX0 HZ0 hnn hself hnl htf htx hle hlen2 hL'
        generalize findN L' x.data.toList = M at *
        go_wp2_with fail
        with_reducible refine HId.out.mono ?_
        rintro e w3 ⟨rfl, S', h3, hB3, hg3⟩
        obtain ⟨io', ic', w6, hrun, h6⟩ := HP.out _ _ h3
        have hc3 := HC.out _ _ h3
        have HT3 := Lib.hid (HT.out _ _ h3)
        have HF3 := Lib.hid (HF.out _ _ h3)
        have hB4 := Lib.hid (HBK.out _ hB3)
        clear HP HC HT HF HBK HId h3 hB3
        go_wp2_with (first
          | (go_at_call 21; with_reducible refine (HT3.out).mono ?_; rintro e w4 ⟨rfl, rfl⟩)
          | (go_at_call 24; with_reducible refine (HF3.out).mono ?_; rintro e w5 ⟨rfl, rfl⟩)
          | (at_builtin; refine wpList_append_eq rfl _ _ 54 rfl (.slice io k ic) (.slice (some ⟨w3.heap.size, 0, none⟩) 1 1) (.slice io' (k + 1) ic') w6 rfl rfl hrun ?_))
        go_roundw
        case rel => exact ⟨k + 1, S', io', ic', hlt, by go_num, rfl, ⟨hB4.out, hg3⟩, h6⟩
        case measure => simp [intOf]; omega
    · have hkN : k = xs0.length := by omega
      subst hkN
      have hall : (rawOf xs0).take xs0.length = rawOf xs0 := List.take_of_length_le (by simp [rawOf])
      rw [hall] at HS hI
      have hmem : ∀ i (hi : i < xs0.length), xs0[i].data.toList ∈ allT (rawOf xs0) := fun i hi => mem_allT.2 (by unfold rawOf; exact List.mem_map.2 ⟨xs0[i], List.getElem_mem hi, rfl⟩)
      have hns : ∀ i (hi : i < xs0.length), (numsT (rawOf xs0))[i]? = some ((findN (allT (rawOf xs0)) xs0[i].data.toList : Nat) : Int) := fun i hi => by
        unfold numsT
        rw [List.getElem?_map, raw_next hi]; rfl
      have hnl : (numsT (rawOf xs0)).length = xs0.length := by unfold numsT rawOf; rw [List.length_map, List.length_map]
      obtain ⟨L, hL⟩ : ∃ L, L = allT (rawOf xs0) := ⟨_, rfl⟩
      obtain ⟨ns, hns'⟩ : ∃ ns, ns = numsT (rawOf xs0) := ⟨_, rfl⟩
      rw [← hL] at HS hI hmem hns
      rw [← hns'] at hI hns hnl
      -- what two places of the rows say
      have HR : Hid (∀ W, In w (oStore sb bt ⟨#[98]⟩ L :: oTree 1048576 bt S :: oNums (.slice io xs0.length ic) ns :: oPair w1.heap.size bt bm :: oRef 1048576 bm (0, [], [], []) :: []) W → ∀ i (hi : i < xs0.length), ∃ gi, io = some ⟨gi, 0, none⟩ ∧ xs0.length ≤ ic ∧ W.cell? ⟨gi, i, none⟩ = some (.int .i64 (findN L xs0[i].data.toList : Nat)) ∧ 1 ≤ findN L xs0[i].data.toList ∧ findN L xs0[i].data.toList ≤ L.length) := fun W h i hi => by
        obtain ⟨o', c', hv', q1, q2⟩ := h.numAt (v := .slice io xs0.length ic) (ns := ns) (by simp)
        injection hv' with a1 _ a3
        subst a1 a3
        obtain ⟨gi, r1, r2⟩ := q2 i _ (hns i hi)
        exact ⟨gi, r1, by omega, r2, find_pos.2 (hmem i hi), find_le _ _⟩
      have HE : Hid (∀ i k (hi : i < xs0.length) (hk : k < xs0.length), xs0[i] ≠ xs0[k] → findN L xs0[i].data.toList ≠ findN L xs0[k].data.toList) := fun i k hi hk hne he => by
        have := find_inj (hmem i hi) (hmem k hk) he
        exact hne (by rw [← txt_toList xs0[i], ← txt_toList xs0[k], this])
      have HLn : Hid (∀ W, In w (oStore sb bt ⟨#[98]⟩ L :: oTree 1048576 bt S :: oNums (.slice io xs0.length ic) ns :: oPair w1.heap.size bt bm :: oRef 1048576 bm (0, [], [], []) :: []) W → Calls Tryz.prog 23 #[.pointer (some ⟨sb, 0, none⟩)] W fun e w' => e = .returned (.int .i64 L.length) ∧ W = w') := fun W h => h.blen (bt := bt) (p := ⟨#[98]⟩) (by simp)
      clear hall hk hlt HS hmem hns hnl hns' hL HZ0
      go_wp2
      go_loopw [14] (fun i wr => ∃ a : Nat, a ≤ xs0.length ∧ i = .int .i64 a ∧ In w (oStore sb bt ⟨#[98]⟩ L :: oTree 1048576 bt S :: oNums (.slice io xs0.length ic) ns :: oPair w1.heap.size bt bm :: oRef 1048576 bm (0, [], [], []) :: []) wr) (fun i _ => xs0.length - (intOf i).toNat)
      case atStart => exact ⟨0, Nat.zero_le _, rfl, hI⟩
      case round =>
        clear hI
        obtain ⟨a, ha, rfl, hI⟩ := hrel
        by_cases hlt : a < xs0.length
        · have hia : (a : Int) < (xs0.length : Int) := by omega
          have hi0 : (0 : Int) ≤ (a : Int) := by omega
          go_wp2
          go_loopw [15] (fun i wr => ∃ q : Nat, q ≤ xs0.length ∧ i = .int .i64 q ∧ In w (oStore sb bt ⟨#[98]⟩ L :: oTree 1048576 bt S :: oNums (.slice io xs0.length ic) ns :: oPair w1.heap.size bt bm :: oRef 1048576 bm (0, [], [], []) :: []) wr) (fun i _ => xs0.length - (intOf i).toNat)
          case atStart => exact ⟨0, Nat.zero_le _, rfl, hI⟩
          case round =>
            clear hI
            obtain ⟨q, hq, rfl, hI⟩ := hrel
            by_cases hlq : q < xs0.length
            · have hiq : (q : Int) < (xs0.length : Int) := by omega
              have hq0 : (0 : Int) ≤ (q : Int) := by omega
              obtain ⟨gi, rfl, hicl, hA, hA1, hA2⟩ := HR.out wr hI a hlt
              obtain ⟨gi', e1, _, hQ, hQ1, hQ2⟩ := HR.out wr hI q hlq
              cases e1
              obtain ⟨g, f, rfl, hcl, hx⟩ := HX0.out wr hI.back a hlt
              obtain ⟨g', f', e2, _, hy⟩ := HX0.out wr hI.back q hlq
              cases e2
              have hne := HE.out a q hlt hlq
              have hac : a < c0' := by omega
              have hqc : q < c0' := by omega
              have hai : a < ic := by omega
              have hqi : q < ic := by omega
              by_cases heq : xs0[a] = xs0[q]
              · rw [← heq] at hQ hy
                have HLn2 : Hid (∀ W, In w (oStore sb bt ⟨#[98]⟩ L :: oTree 1048576 bt S :: oNums (.slice (some ⟨gi, 0, none⟩) xs0.length ic) ns :: oPair w1.heap.size bt bm :: oRef 1048576 bm (0, [], [], []) :: []) W → _) := HLn.out
                generalize xs0[a] = x at *
                generalize findN L x.data.toList = A at *
                have d1' : decide ((A : Int) < 1) = false := by simp; omega
                have d2' : decide ((L.length : Int) < (A : Int)) = false := by simp; omega
                have n1' : ¬ (A : Int) < 1 := by omega
                have n2' : ¬ L.length < A := by omega
                have hId : In w (oStore sb bt ⟨#[98]⟩ L :: oTree 1048576 bt S :: oNums (.slice (some ⟨gi, 0, none⟩) xs0.length ic) ns :: oPair w1.heap.size bt bm :: oRef 1048576 bm (0, [], [], []) :: []) wr.drew := hI.below (below_drew (Below.refl _ _))
                have e1 : wr.drew.cell? ⟨gi, a, none⟩ = some (.int .i64 A) := hA
                have e2 : wr.drew.cell? ⟨gi, q, none⟩ = some (.int .i64 A) := hQ
                have e3 : wr.drew.cell? ⟨g, f + a, none⟩ = some (.string x) := hx
                have e4 : wr.drew.cell? ⟨g, f + q, none⟩ = some (.string x) := hy
                clear HX0 HR HE HLn hI hA hQ hx hy hA1 hA2 hQ1 hQ2 hne heq
                go_wp2
                go_region_held3 (fun W => W.cell? ⟨gi, a, none⟩ = some (.int .i64 A) ∧ W.cell? ⟨gi, q, none⟩ = some (.int .i64 A) ∧ W.cell? ⟨g, f + a, none⟩ = some (.string x) ∧ W.cell? ⟨g, f + q, none⟩ = some (.string x) ∧ In w (oStore sb bt ⟨#[98]⟩ L :: oTree 1048576 bt S :: oNums (.slice (some ⟨gi, 0, none⟩) xs0.length ic) ns :: oPair w1.heap.size bt bm :: oRef 1048576 bm (0, [], [], []) :: []) W)
                  (first | exact ⟨by assumption, by assumption, by assumption, by assumption, by assumption⟩)
                  (first | (go_at_call 23; with_reducible refine (HLn2.out _ (by assumption)).mono ?_; rintro e w4 ⟨rfl, rfl⟩))
                all_goals (
                  go_wp2
                  go_roundw
                  case rel => exact ⟨q + 1, hlq, by go_num, by assumption⟩
                  case measure => simp [intOf]; omega)
              · have hnn := hne heq
                have HLn2 : Hid (∀ W, In w (oStore sb bt ⟨#[98]⟩ L :: oTree 1048576 bt S :: oNums (.slice (some ⟨gi, 0, none⟩) xs0.length ic) ns :: oPair w1.heap.size bt bm :: oRef 1048576 bm (0, [], [], []) :: []) W → _) := HLn.out
                have hq1 : (xs0[a].toList == xs0[q].toList) = false := by rw [str_eq]; simp [heq]
                have hq2 : (((findN L xs0[a].data.toList : Nat) : Int) == ((findN L xs0[q].data.toList : Nat) : Int)) = false := by simp; omega
                clear heq hne
                generalize findN L xs0[a].data.toList = A at *
                generalize findN L xs0[q].data.toList = B at *
                obtain ⟨x, hx'⟩ : ∃ x, x = xs0[a] := ⟨_, rfl⟩
                obtain ⟨y, hy'⟩ : ∃ y, y = xs0[q] := ⟨_, rfl⟩
                rw [← hx'] at hx hq1
                rw [← hy'] at hy hq1
                clear hx' hy'
                have d1' : decide ((A : Int) < 1) = false := by simp; omega
                have d2' : decide ((L.length : Int) < (A : Int)) = false := by simp; omega
                have n1' : ¬ (A : Int) < 1 := by omega
                have n2' : ¬ L.length < A := by omega
                have hId : In w (oStore sb bt ⟨#[98]⟩ L :: oTree 1048576 bt S :: oNums (.slice (some ⟨gi, 0, none⟩) xs0.length ic) ns :: oPair w1.heap.size bt bm :: oRef 1048576 bm (0, [], [], []) :: []) wr.drew := hI.below (below_drew (Below.refl _ _))
                have e1 : wr.drew.cell? ⟨gi, a, none⟩ = some (.int .i64 A) := hA
                have e2 : wr.drew.cell? ⟨gi, q, none⟩ = some (.int .i64 B) := hQ
                have e3 : wr.drew.cell? ⟨g, f + a, none⟩ = some (.string x) := hx
                have e4 : wr.drew.cell? ⟨g, f + q, none⟩ = some (.string y) := hy
                clear HX0 HR HE HLn hI hA hQ hx hy hA1 hA2 hQ1 hQ2 hnn
                go_wp2
                go_region_held3 (fun W => W.cell? ⟨gi, a, none⟩ = some (.int .i64 A) ∧ W.cell? ⟨gi, q, none⟩ = some (.int .i64 B) ∧ W.cell? ⟨g, f + a, none⟩ = some (.string x) ∧ W.cell? ⟨g, f + q, none⟩ = some (.string y) ∧ In w (oStore sb bt ⟨#[98]⟩ L :: oTree 1048576 bt S :: oNums (.slice (some ⟨gi, 0, none⟩) xs0.length ic) ns :: oPair w1.heap.size bt bm :: oRef 1048576 bm (0, [], [], []) :: []) W)
                  (first | exact ⟨by assumption, by assumption, by assumption, by assumption, by assumption⟩)
                  (first | (go_at_call 23; with_reducible refine (HLn2.out _ (by assumption)).mono ?_; rintro e w4 ⟨rfl, rfl⟩))
                all_goals (
                  go_wp2
                  go_roundw
                  case rel => exact ⟨q + 1, hlq, by go_num, by assumption⟩
                  case measure => simp [intOf]; omega)
            · clear HX0 HR HE HLn
              go_wp2
              go_roundw
              case rel => exact ⟨a + 1, hlt, by go_num, hI⟩
              case measure => simp [intOf]; omega
        · have hb := Lib.hid hI.back
          clear hI HX0 HR HE HLn
          go_wp2
          go_ret
          exact ⟨rfl, hb.out⟩

end Go.Proofs.YtchnbnmajagpjaaGreatDoor
