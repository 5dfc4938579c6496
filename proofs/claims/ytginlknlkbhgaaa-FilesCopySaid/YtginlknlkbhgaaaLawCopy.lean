/-
  A copy has the same files, times and pending changes, and goes the same way; what is done to one is not seen in the other: for any acts ahead and any behind. No condition.
-/
import Derived.Test.YtginlknlkbhgaaaRowP
import Derived.Test.YtginlknlkbhgaaaFActs
import Derived.Test.YtginlknlkbhgaaaFLaws2
import Derived.Test.YtginlknlkbhgaaaFPure
import Derived.Test.YtginlknlkbhgaaaFLaw5
namespace Go.Proofs.Ytginlknlkbhgaaa
open Go.ChangeShapes Go.WideShapes Go.ChangeAt Go.RowKit
open Go.Shelf Go.Maps

theorem Bx.acts {w W1 W : World} {pb bt bm b c : Nat} {Z : Nat → Prop} {room : Int} {l : List Ent} {n : Nat} {S : St} (h : Bx w pb bt bm W1 Z room ((false, b, S) :: l) W) (hg : Good room n S) (hn : n < 268435456) (a : ActV) (ha : ActOk a) :
    Calls Try.prog 31 #[.agg #[.pointer (some ⟨b, 0, none⟩), .pointer (some ⟨c, 0, none⟩)], .agg (actCells a).toArray] W fun r w' => r = .returned (.tuple #[]) ∧ Bx w pb bt bm W1 Z room ((false, b, actS room S a) :: l) w' :=
  (h.1.tree fun X hX => acts_any X b c room n S a W hX hg hn ha).mono fun _ _ k => ⟨k.1, k.2, h.2⟩


set_option maxRecDepth 100000 in
set_option maxHeartbeats 8000000 in
theorem filesCopy_walk (v : Value) (al : List ActV) (hn : al.length ≤ maxLen) (hw : ∀ a ∈ al, ActW a) (v2 : Value) (al2 : List ActV) (hn2 : al2.length ≤ maxLen) (hw2 : ∀ a ∈ al2, ActW a) (w : World) (hr : ActsO w w.heap.size v al) (hr2 : ActsO w w.heap.size v2 al2) :
    Calls Try.prog 8 #[v, v2] w (LawPost w) := by
  obtain ⟨o, c, rfl, hx'⟩ := id hr
  clear hx'
  have HSh := Lib.hid (shown_at w)
  have HSm := Lib.hid (small_at hr hn hw)
  have HBg := Lib.hid (begun_at 3000 (by omega) (by omega) w)
  have hb0 : Below w.heap.size w w := Below.refl _ _
  obtain ⟨o2, c2, rfl, hx2'⟩ := id hr2
  clear hx2'
  have HSm2 := Lib.hid (small_at hr2 hn2 hw2)
  cases hsm : smallB al with
  | false =>
    rw [hsm] at HSm
    generalize smallB al2 = z2 at HSm2
    clear hr hn hw hsm hr2 hn2 hw2
    go_enter Try.func8, Try.ntmps8
    go_wp2_with (first
      | (go_at_call 11; refine (HSh.out _ hb0).mono ?_; rintro e w2 ⟨rfl, hb2⟩)
      | (go_at_call 12; with_reducible refine (HSm.out _ hb2).mono ?_; rintro e w3 ⟨rfl, rfl⟩)
      | (go_at_call 12; with_reducible refine (HSm2.out _ hb2).mono ?_; rintro e w3 ⟨rfl, rfl⟩)
      | (go_at_call 13; refine (HBg.out _ hb2).mono ?_; rintro e w1 ⟨bt, bm, rfl, h0⟩))
    go_ret
    exact ⟨rfl, boxBack h0⟩
  | true =>
    rw [hsm] at HSm
    cases hsm2 : smallB al2 with
    | false =>
      rw [hsm2] at HSm2
      clear hr hn hw hsm hr2 hn2 hw2 hsm2
      go_enter Try.func8, Try.ntmps8
      go_wp2_with (first
        | (go_at_call 11; refine (HSh.out _ hb0).mono ?_; rintro e w2 ⟨rfl, hb2⟩)
        | (go_at_call 12; with_reducible refine (HSm.out _ hb2).mono ?_; rintro e w3 ⟨rfl, rfl⟩)
        | (go_at_call 12; with_reducible refine (HSm2.out _ hb2).mono ?_; rintro e w3 ⟨rfl, rfl⟩)
        | (go_at_call 13; refine (HBg.out _ hb2).mono ?_; rintro e w1 ⟨bt, bm, rfl, h0⟩))
      go_ret
      exact ⟨rfl, boxBack h0⟩
    | true =>
      rw [hsm2] at HSm2
      obtain ⟨hlen, hok⟩ := small_ok hsm hw
      obtain ⟨hlen2, hok2⟩ := small_ok hsm2 hw2
      have HX : Hid (ActsO w w.heap.size (.slice o al.length c) al) := hr
      have HO := Lib.hid hok
      have HX2 : Hid (ActsO w w.heap.size (.slice o2 al2.length c2) al2) := hr2
      have HO2 := Lib.hid hok2
      clear hr hn hw hsm hok hr2 hn2 hw2 hsm2 hok2
      go_enter Try.func8, Try.ntmps8
      go_wp2_with (first
        | (go_at_call 11; refine (HSh.out _ hb0).mono ?_; rintro e w2 ⟨rfl, hb2⟩)
        | (go_at_call 12; with_reducible refine (HSm.out _ hb2).mono ?_; rintro e w3 ⟨rfl, rfl⟩)
        | (go_at_call 12; with_reducible refine (HSm2.out _ hb2).mono ?_; rintro e w3 ⟨rfl, rfl⟩)
        | (go_at_call 13; refine (HBg.out _ hb2).mono ?_; rintro e w1 ⟨bt, bm, rfl, h0⟩))
      clear HSh HSm HSm2 HBg
      go_loopw [10] (fun i wr => ∃ (k : Nat) (S : St), k ≤ al.length ∧ i = .int .i64 k ∧ Good 3000 k S ∧ Bx w w1.heap.size bt bm (pairW w1 bt bm) (ZB w w1) 3000 [(false, bt, S), (true, bm, S)] wr) (fun i _ => al.length - (intOf i).toNat)
      case atStart => exact ⟨0, _, Nat.zero_le _, rfl, Good.new (by omega) (by omega), h0.bx⟩
      case round =>
        obtain ⟨k, S, hk, rfl, hg, hcr⟩ := hrel
        by_cases hlt : k < al.length
        · obtain ⟨b, f, rfl, hkc, hcell⟩ := acts_at HX.out (List.getElem?_eq_getElem hlt)
          have ha := HO.out _ (List.getElem_mem hlt)
          generalize al[k] = a at *
          have hi5 : (k : Int) < (al.length : Int) := by omega
          have hi6 : (0 : Int) ≤ (k : Int) := by omega
          have hk60 : k < 268435456 := by omega
          have HC : Hid (∀ l W, Bx w w1.heap.size bt bm (pairW w1 bt bm) (ZB w w1) 3000 l W → ActCells W b f k a) := fun l W h => hcell W (bxBack h)
          have HB : Hid (∀ l W, Bx w w1.heap.size bt bm (pairW w1 bt bm) (ZB w w1) 3000 l W → W.cell? ⟨w1.heap.size, 0, none⟩ = some (.pointer (some ⟨bt, 0, none⟩)) ∧ W.cell? ⟨w1.heap.size, 1, none⟩ = some (.pointer (some ⟨bm, 0, none⟩))) := fun l W h => bxAt h
          obtain ⟨S', hS'⟩ : ∃ S', S' = actS 3000 S a := ⟨_, rfl⟩
          have hg' : Good 3000 (k + 1) S' := by rw [hS']; exact hg.act a
          have H4 : Hid (∀ W, Bx w w1.heap.size bt bm (pairW w1 bt bm) (ZB w w1) 3000 [(false, bt, S), (true, bm, S)] W → Calls Try.prog 17 #[.agg #[.pointer (some ⟨bt, 0, none⟩), .pointer (some ⟨bm, 0, none⟩)], .agg #[.int .i64 a.op, .int .i64 a.n, .int .i64 a.m, .string a.path, .string a.text]] W fun r w' => r = .returned (.bool true) ∧ Bx w w1.heap.size bt bm (pairW w1 bt bm) (ZB w w1) 3000 [(false, bt, S'), (true, bm, S')] w') := fun W h => by
            rw [hS']; exact h.does hg hk60 a ha
          have hcrd := Bx.below hcr (below_drew (Below.refl _ _))
          clear ha hg hS' hcell HX HO HX2 HO2 
          obtain ⟨op, an, am, ap, at'⟩ := a
          simp only [ActCells] at HC H4
          go_wp2
          go_region_held3 (fun W => W.cell? ⟨w1.heap.size, 0, none⟩ = some (.pointer (some ⟨bt, 0, none⟩)) ∧ W.cell? ⟨w1.heap.size, 1, none⟩ = some (.pointer (some ⟨bm, 0, none⟩)) ∧ W.cell? ⟨b, f + k * 5, none⟩ = some (.int .i64 op) ∧ W.cell? ⟨b, f + k * 5 + 1, none⟩ = some (.int .i64 an) ∧ W.cell? ⟨b, f + k * 5 + 2, none⟩ = some (.int .i64 am) ∧ W.cell? ⟨b, f + k * 5 + 3, none⟩ = some (.string ap) ∧ W.cell? ⟨b, f + k * 5 + 4, none⟩ = some (.string at'))
            (first | exact (fun h => ⟨(HB.out _ _ h).1, (HB.out _ _ h).2, HC.out _ _ h⟩) (show Bx w w1.heap.size bt bm (pairW w1 bt bm) (ZB w w1) 3000 _ _ by assumption))
            (first | (go_at_call 17; refine (H4.out _ (by assumption)).mono ?_; rintro e w7 ⟨rfl, h7⟩))
          go_wp2
          go_roundw
          case rel => exact ⟨k + 1, S', hlt, by go_num, hg', h7⟩
          case measure => simp [intOf]; omega
        · have hk60 : k + 70 < 268435456 := by omega
          have hk61 : k < 268435456 := by omega
          have hm1 := bxAt hcr
          obtain ⟨F1, hF1⟩ : ∃ F1, F1 = filesOf S.now := ⟨_, rfl⟩
          have hF1b : F1.length < 1073741824 := by rw [hF1]; unfold filesOf; have := hg.files.len; simp; omega
          obtain ⟨n1, hn1⟩ : ∃ n1, n1 = F1.length := ⟨_, rfl⟩
          obtain ⟨M, hM⟩ : ∃ M, M = S.pend.length := ⟨_, rfl⟩
          have H1 : Hid (∀ W, Bx w w1.heap.size bt bm (pairW w1 bt bm) (ZB w w1) 3000 [(false, bt, S), (true, bm, S)] W → Calls Try.prog 14 #[.pointer (some ⟨bt, 0, none⟩)] W fun r w' => ∃ ca, r = .returned (.pointer (some ⟨ca, 0, none⟩)) ∧ Bx w w1.heap.size bt bm (pairW w1 bt bm) (ZB w w1) 3000 [(false, bt, S), (false, ca, S), (true, bm, S)] w') := fun W h => (h.clone hg hk61).mono fun _ _ ⟨ca, q1, q2⟩ => ⟨ca, q1, q2.swap⟩
          have H2 : Hid (∀ ca W, Bx w w1.heap.size bt bm (pairW w1 bt bm) (ZB w w1) 3000 [(false, bt, S), (false, ca, S), (true, bm, S)] W → Calls Try.prog 14 #[.pointer (some ⟨bt, 0, none⟩)] W fun r w' => ∃ cb, r = .returned (.pointer (some ⟨cb, 0, none⟩)) ∧ Bx w w1.heap.size bt bm (pairW w1 bt bm) (ZB w w1) 3000 [(false, ca, S), (false, cb, S), (false, bt, S), (true, bm, S)] w') := fun ca W h => (h.clone hg hk61).mono fun _ _ ⟨cb, q1, q2⟩ => ⟨cb, q1, q2.third⟩
          have H3 : Hid (∀ ca cb W, Bx w w1.heap.size bt bm (pairW w1 bt bm) (ZB w w1) 3000 [(false, ca, S), (false, cb, S), (false, bt, S), (true, bm, S)] W → Calls Try.prog 26 #[.pointer (some ⟨bt, 0, none⟩)] W fun r w5 => ∃ o q Z5 P5, r = .returned (.slice o n1 q) ∧ Bx w w1.heap.size bt bm w5 Z5 3000 [(false, ca, S), (false, cb, S), (false, bt, S), (true, bm, S)] w5 ∧ ∀ l W, Bx w w1.heap.size bt bm w5 Z5 3000 l W → RowA W P5 (.slice o n1 q) F1) := fun ca cb W h => by
            have := h.third.files hg hk61
            rw [← hF1, ← hn1] at this
            refine this.mono ?_
            rintro r w5 ⟨o, q, k1, k2, k3, k4⟩
            obtain ⟨Z5, p1, p2, p3⟩ := h.prot k3
            exact ⟨o, q, Z5, _, k1, p1, fun l W' h' => h'.krow p2 k2 (fun n hn => hn)⟩
          have H4 : Hid (∀ W1 Z ca cb S2 W, Bx w w1.heap.size bt bm W1 Z 3000 [(false, ca, S2), (false, cb, S2), (false, bt, S), (true, bm, S)] W → Calls Try.prog 24 #[.pointer (some ⟨bt, 0, none⟩)] W fun r w' => r = .returned (.int .i64 M) ∧ W = w') := fun W1 Z ca cb S2 W h => by rw [hM]; exact h.third.pending
          have H9 : Hid (∀ W P Q v u, RowA W P v F1 → RowA W Q u F1 → Calls Try.prog 27 #[v, u] W fun e w' => e = .returned (.bool true) ∧ Below W.heap.size W w') := fun W P Q v u h1 h2 => same_eq v u P Q F1 W h1 h2 hF1b
          have H11 : Hid (∀ W1 Z ca cb S2 W, Bx w w1.heap.size bt bm W1 Z 3000 [(false, ca, S2), (false, cb, S2), (false, bt, S), (true, bm, S)] W → Calls Try.prog 26 #[.pointer (some ⟨bt, 0, none⟩)] W fun r w' => ∃ o q, r = .returned (.slice o n1 q) ∧ RowA w' (fun n => W.heap.size ≤ n) (.slice o n1 q) F1 ∧ Bx w w1.heap.size bt bm W1 Z 3000 [(false, ca, S2), (false, cb, S2), (false, bt, S), (true, bm, S)] w') := fun W1 Z ca cb S2 W h => by
            have := h.third.files hg hk61
            rw [← hF1, ← hn1] at this
            exact this.mono fun _ _ ⟨o, q, k1, k2, k3, k4⟩ => ⟨o, q, k1, k2, Bx.below h k3⟩
          have HG := Lib.hid hg
          clear hg HX HO hF1 hF1b hn1 hM
          go_wp2_with (first
            | (go_at_call 14; with_reducible refine (H1.out _ hcr).mono ?_; rintro e w6 ⟨ca, rfl, h6⟩; have hm6 := bxAt h6)
            | (go_at_call 14; with_reducible refine (H2.out _ _ h6).mono ?_; rintro e w7 ⟨cb, rfl, h7⟩; have hm7 := bxAt h7)
            | (go_at_call 26; with_reducible refine (H3.out _ _ _ h7).mono ?_; rintro e w5 ⟨oA, cA, Z5, P5, rfl, h5, hk5⟩; have HK5 := Lib.hid hk5; clear hk5; have hm5 := bxAt h5)
            | (go_at_call 24; with_reducible refine (H4.out _ _ _ _ _ _ h5).mono ?_; rintro e w8 ⟨rfl, rfl⟩))
          clear H1 H2 H3 hm1 hm6 hm7
          go_loopw [15] (fun i wr => ∃ (j : Nat) (S2 : St), j ≤ al2.length ∧ i = .int .i64 j ∧ Good 3000 (k + j) S2 ∧ Bx w w1.heap.size bt bm w5 Z5 3000 [(false, ca, S2), (false, cb, S2), (false, bt, S), (true, bm, S)] wr) (fun i _ => al2.length - (intOf i).toNat)
          case atStart => exact ⟨0, S, Nat.zero_le _, rfl, HG.out, h5⟩
          case round =>
            obtain ⟨j, S2, hj, rfl, hg, hcr2⟩ := hrel
            by_cases hlt2 : j < al2.length
            · obtain ⟨b, f, rfl, hkc, hcell⟩ := acts_at HX2.out (List.getElem?_eq_getElem hlt2)
              have ha := HO2.out _ (List.getElem_mem hlt2)
              generalize al2[j] = a at *
              have hi5 : (j : Int) < (al2.length : Int) := by omega
              have hi6 : (0 : Int) ≤ (j : Int) := by omega
              have hj60 : k + j < 268435456 := by omega
              have HC : Hid (∀ l W, Bx w w1.heap.size bt bm w5 Z5 3000 l W → ActCells W b f j a) := fun l W h => hcell W (bxBack h)
              have HB : Hid (∀ l W, Bx w w1.heap.size bt bm w5 Z5 3000 l W → W.cell? ⟨w1.heap.size, 0, none⟩ = some (.pointer (some ⟨bt, 0, none⟩)) ∧ W.cell? ⟨w1.heap.size, 1, none⟩ = some (.pointer (some ⟨bm, 0, none⟩))) := fun l W h => bxAt h
              obtain ⟨S', hS'⟩ : ∃ S', S' = actS 3000 S2 a := ⟨_, rfl⟩
              have hg' : Good 3000 (k + (j + 1)) S' := by rw [hS', ← Nat.add_assoc]; exact hg.act a
              have H5 : Hid (∀ W, Bx w w1.heap.size bt bm w5 Z5 3000 [(false, ca, S2), (false, cb, S2), (false, bt, S), (true, bm, S)] W → Calls Try.prog 31 #[.agg #[.pointer (some ⟨ca, 0, none⟩), .pointer (some ⟨bm, 0, none⟩)], .agg #[.int .i64 a.op, .int .i64 a.n, .int .i64 a.m, .string a.path, .string a.text]] W fun r w' => r = .returned (.tuple #[]) ∧ Bx w w1.heap.size bt bm w5 Z5 3000 [(false, cb, S2), (false, ca, S'), (false, bt, S), (true, bm, S)] w') := fun W h => by
                rw [hS']; exact (h.acts hg hj60 a ha).mono fun _ _ q => ⟨q.1, q.2.swap⟩
              have H6 : Hid (∀ W, Bx w w1.heap.size bt bm w5 Z5 3000 [(false, cb, S2), (false, ca, S'), (false, bt, S), (true, bm, S)] W → Calls Try.prog 31 #[.agg #[.pointer (some ⟨cb, 0, none⟩), .pointer (some ⟨bm, 0, none⟩)], .agg #[.int .i64 a.op, .int .i64 a.n, .int .i64 a.m, .string a.path, .string a.text]] W fun r w' => r = .returned (.tuple #[]) ∧ Bx w w1.heap.size bt bm w5 Z5 3000 [(false, ca, S'), (false, cb, S'), (false, bt, S), (true, bm, S)] w') := fun W h => by
                have := h.acts (c := bm) hg hj60 a ha
                rw [← hS'] at this
                exact this.mono fun _ _ q => ⟨q.1, q.2.swap⟩
              have hcrd := Bx.below hcr2 (below_drew (Below.refl _ _))
              clear ha hg hS' hcell HX2 HO2 H4 H9 H11 HG
              obtain ⟨op, an, am, ap, at'⟩ := a
              simp only [ActCells] at HC H5 H6
              go_wp2
              go_region_held3 (fun W => W.cell? ⟨w1.heap.size, 0, none⟩ = some (.pointer (some ⟨bt, 0, none⟩)) ∧ W.cell? ⟨w1.heap.size, 1, none⟩ = some (.pointer (some ⟨bm, 0, none⟩)) ∧ W.cell? ⟨b, f + j * 5, none⟩ = some (.int .i64 op) ∧ W.cell? ⟨b, f + j * 5 + 1, none⟩ = some (.int .i64 an) ∧ W.cell? ⟨b, f + j * 5 + 2, none⟩ = some (.int .i64 am) ∧ W.cell? ⟨b, f + j * 5 + 3, none⟩ = some (.string ap) ∧ W.cell? ⟨b, f + j * 5 + 4, none⟩ = some (.string at'))
                (first | exact (fun h => ⟨(HB.out _ _ h).1, (HB.out _ _ h).2, HC.out _ _ h⟩) (show Bx w w1.heap.size bt bm w5 Z5 3000 _ _ by assumption))
                (first | (go_at_call 31; refine (H5.out _ (by assumption)).mono ?_; rintro e w9 ⟨rfl, h9⟩; have h9d := Bx.below h9 (below_drew (Below.refl _ _))))
              go_wp2
              go_region_held3 (fun W => W.cell? ⟨w1.heap.size, 0, none⟩ = some (.pointer (some ⟨bt, 0, none⟩)) ∧ W.cell? ⟨w1.heap.size, 1, none⟩ = some (.pointer (some ⟨bm, 0, none⟩)) ∧ W.cell? ⟨b, f + j * 5, none⟩ = some (.int .i64 op) ∧ W.cell? ⟨b, f + j * 5 + 1, none⟩ = some (.int .i64 an) ∧ W.cell? ⟨b, f + j * 5 + 2, none⟩ = some (.int .i64 am) ∧ W.cell? ⟨b, f + j * 5 + 3, none⟩ = some (.string ap) ∧ W.cell? ⟨b, f + j * 5 + 4, none⟩ = some (.string at'))
                (first | exact (fun h => ⟨(HB.out _ _ h).1, (HB.out _ _ h).2, HC.out _ _ h⟩) (show Bx w w1.heap.size bt bm w5 Z5 3000 _ _ by assumption))
                (first | (go_at_call 31; refine (H6.out _ (by assumption)).mono ?_; rintro e w10 ⟨rfl, h10⟩))
              go_wp2
              go_roundw
              case rel => exact ⟨j + 1, S', hlt2, by go_num, hg', h10⟩
              case measure => simp [intOf]; omega
            · have hj60 : k + j < 268435456 := by omega
              have hm2 := bxAt hcr2
              obtain ⟨SC, hSC⟩ : ∃ SC, SC = opC S2 1 1 := ⟨_, rfl⟩
              have hgC : Good 3000 (k + j) SC := by rw [hSC]; exact hg.opC _ _
              obtain ⟨F2, hF2⟩ : ∃ F2, F2 = filesOf SC.now := ⟨_, rfl⟩
              have hF2b : F2.length < 1073741824 := by rw [hF2]; unfold filesOf; have := hgC.files.len; simp; omega
              obtain ⟨n2, hn2⟩ : ∃ n2, n2 = F2.length := ⟨_, rfl⟩
              obtain ⟨u, hu⟩ : ∃ u, u = used SC.now := ⟨_, rfl⟩
              have H5 : Hid (∀ W, Bx w w1.heap.size bt bm w5 Z5 3000 [(false, ca, S2), (false, cb, S2), (false, bt, S), (true, bm, S)] W → Calls Try.prog 16 #[.pointer (some ⟨ca, 0, none⟩), .int .i64 1, .int .i64 1] W fun r w' => r = .returned (.tuple #[]) ∧ Bx w w1.heap.size bt bm w5 Z5 3000 [(false, cb, S2), (false, ca, SC), (false, bt, S), (true, bm, S)] w') := fun W h => by
                rw [hSC]; exact (h.crash hg 1 1 (by omega)).mono fun _ _ q => ⟨q.1, q.2.swap⟩
              have H6 : Hid (∀ W, Bx w w1.heap.size bt bm w5 Z5 3000 [(false, cb, S2), (false, ca, SC), (false, bt, S), (true, bm, S)] W → Calls Try.prog 16 #[.pointer (some ⟨cb, 0, none⟩), .int .i64 1, .int .i64 1] W fun r w' => r = .returned (.tuple #[]) ∧ Bx w w1.heap.size bt bm w5 Z5 3000 [(false, ca, SC), (false, cb, SC), (false, bt, S), (true, bm, S)] w') := fun W h => by
                have := h.crash hg 1 1 (by omega)
                rw [← hSC] at this
                exact this.mono fun _ _ q => ⟨q.1, q.2.swap⟩
              have H7 : Hid (∀ W, Bx w w1.heap.size bt bm w5 Z5 3000 [(false, ca, SC), (false, cb, SC), (false, bt, S), (true, bm, S)] W → Calls Try.prog 26 #[.pointer (some ⟨ca, 0, none⟩)] W fun r w' => ∃ o q, r = .returned (.slice o n2 q) ∧ RowA w' (fun n => W.heap.size ≤ n) (.slice o n2 q) F2 ∧ Below W.heap.size W w') := fun W h => by
                have := h.files hgC hj60
                rw [← hF2, ← hn2] at this
                exact this.mono fun _ _ ⟨o, q, k1, k2, k3, k4⟩ => ⟨o, q, k1, k2, k3⟩
              have H8 : Hid (∀ W, Bx w w1.heap.size bt bm w5 Z5 3000 [(false, ca, SC), (false, cb, SC), (false, bt, S), (true, bm, S)] W → Calls Try.prog 26 #[.pointer (some ⟨cb, 0, none⟩)] W fun r w' => ∃ o q, r = .returned (.slice o n2 q) ∧ RowA w' (fun n => W.heap.size ≤ n) (.slice o n2 q) F2 ∧ Below W.heap.size W w') := fun W h => by
                have := h.swap.files hgC hj60
                rw [← hF2, ← hn2] at this
                exact this.mono fun _ _ ⟨o, q, k1, k2, k3, k4⟩ => ⟨o, q, k1, k2, k3⟩
              have H10 : Hid (∀ W P Q v u, RowA W P v F2 → RowA W Q u F2 → Calls Try.prog 27 #[v, u] W fun e w' => e = .returned (.bool true) ∧ Below W.heap.size W w') := fun W P Q v u h1 h2 => same_eq v u P Q F2 W h1 h2 hF2b
              have H12 : Hid (∀ W, Bx w w1.heap.size bt bm w5 Z5 3000 [(false, ca, SC), (false, cb, SC), (false, bt, S), (true, bm, S)] W → Calls Try.prog 30 #[.pointer (some ⟨ca, 0, none⟩)] W fun r w' => r = .returned (.int .i64 u) ∧ Bx w w1.heap.size bt bm w5 Z5 3000 [(false, ca, SC), (false, cb, SC), (false, bt, S), (true, bm, S)] w') := fun W h => by rw [hu]; exact h.used hgC hj60
              have H13 : Hid (∀ W, Bx w w1.heap.size bt bm w5 Z5 3000 [(false, ca, SC), (false, cb, SC), (false, bt, S), (true, bm, S)] W → Calls Try.prog 30 #[.pointer (some ⟨cb, 0, none⟩)] W fun r w' => r = .returned (.int .i64 u) ∧ Bx w w1.heap.size bt bm w5 Z5 3000 [(false, ca, SC), (false, cb, SC), (false, bt, S), (true, bm, S)] w') := fun W h => by rw [hu]; exact (h.swap.used hgC hj60).mono fun _ _ q => ⟨q.1, q.2.swap⟩
              clear hg hSC hgC hF2 hF2b hn2 hu HX2 HO2 HG
              go_wp2_with (first
                | (go_at_call 16; with_reducible refine (H5.out _ hcr2).mono ?_; rintro e w9 ⟨rfl, h9⟩; have hm9 := bxAt h9)
                | (go_at_call 16; with_reducible refine (H6.out _ h9).mono ?_; rintro e w10 ⟨rfl, h10⟩; have hm10 := bxAt h10)
                | (go_at_call 26; with_reducible refine (H7.out _ h10).mono ?_; rintro e w11 ⟨oB, cB, rfl, r11, hb11⟩; have h11 := Bx.below h10 hb11; have hm11 := bxAt h11)
                | (go_at_call 26; with_reducible refine (H8.out _ h11).mono ?_; rintro e w12 ⟨oC, cC, rfl, r12, hb12⟩; have h12 := Bx.below h11 hb12; have hm12 := bxAt h12; have r11' := RowR.below r11 hb12 (Nat.le_refl _))
                | (go_at_call 27; with_reducible refine (H10.out _ _ _ _ _ r11' r12).mono ?_; rintro e w13 ⟨rfl, hb13⟩; have h13 := Bx.below h12 hb13; have hm13 := bxAt h13)
                | (go_at_call 30; with_reducible refine (H12.out _ h13).mono ?_; rintro e w14 ⟨rfl, h14⟩; have hm14 := bxAt h14)
                | (go_at_call 30; with_reducible refine (H13.out _ h14).mono ?_; rintro e w15 ⟨rfl, h15⟩; have hm15 := bxAt h15)
                | (go_at_call 26; with_reducible refine (H11.out _ _ _ _ _ _ h15).mono ?_; rintro e w16 ⟨oD, cD, rfl, r16, h16⟩)
                | (go_at_call 27; with_reducible refine (H9.out _ _ _ _ _ r16 (HK5.out _ _ h16)).mono ?_; rintro e w17 ⟨rfl, hb17⟩; have h17 := Bx.below h16 hb17; have hm17 := bxAt h17)
                | (go_at_call 24; with_reducible refine (H4.out _ _ _ _ _ _ h17).mono ?_; rintro e w18 ⟨rfl, rfl⟩))
              go_ret
              exact ⟨rfl, bxBack h17⟩

set_option maxRecDepth 100000 in
theorem filesCopy_lifted (os : Os) (started : os.Started) (H : Type) (enc : TypeId × Value → H) :
    ReturnsInHanded {} Try.checked os 8 .any (Rows.filesCopySpec.pre6 enc Try.prog Try.f8 Rows.filesCopyRow.domain false) (Rows.filesCopySpec.post enc Try.prog Try.f8 false true false false) := by
  refine returnsInHanded_of_change (C := Try.checked) own_knob started (by kernel_rfl) Try.func8
    (ChangeSpec.witness6 (enc := enc) (C := Try.checked) false ⟨#[], #[.slice none 0 0, .slice none 0 0], []⟩ 8 (by kernel_rfl) (by kernel_rfl) (by kernel_rfl) (by kernel_rfl)) ?_
  intro W base args ds gs before hval0 hW _ _
  have hval : ∀ (j : Nat) t v, Try.f8.params[j]? = some t → args[j]? = some v → Value.okWide Try.prog W .any base t v := hval0
  have hW' := hW
  obtain ⟨p, q, hA0, hV, rfl, hfz, hnd⟩ := hW
  have hA : DataW.TrodAll enc Try.prog W 0 (fun _ => true) true Try.f8.params.toList args.toList ds p := hA0
  rw [Try.params8] at hA hval
  obtain ⟨v0, v1, d0, d1, p0, p1, rfl, rfl, rfl, h0, h1⟩ := trodAll_two hA
  obtain ⟨rfl, rfl⟩ := trodVars_none hV
  clear hA0 hval0
  simp only [List.append_nil] at hW'
  have hlt := fun x hx => hW'.lt x hx
  obtain ⟨⟨al0, hn0, hw0, hr0⟩, hback0⟩ := open_acts (hval 0 22 v0 rfl rfl) h0 (fun x hx => hlt x (by simp [hx]))
  obtain ⟨⟨al1, hn1, hw1, hr1⟩, hback1⟩ := open_acts (hval 1 22 v1 rfl rfl) h1 (fun x hx => hlt x (by simp [hx]))
  refine (filesCopy_walk v0 al0 hn0 hw0 v1 al1 hn1 hw1 W hr0 hr1).mono fun e W' h => ⟨.bool true, h.1, ?_⟩
  exact post_true_at hW' rfl (by kernel_rfl) Try.underlying4 rfl (trodAll_mk2 (hback0 W' h.2) (hback1 W' h.2)) h.2

theorem filesCopy_holds : Rows.FilesCopySaid :=
  OpenClaim.holds_of_wide 8 Try.f8 rfl rfl rfl rfl rfl rfl rfl ⟨rfl, rfl, rfl, rfl, rfl⟩ rfl rfl rfl rfl rfl (by kernel_rfl) Try.func8 (by kernel_rfl)
    (of_decide_eq_true (by kernel_rfl)) (by unfold Func.isWrapper; first | (rw [if_pos (by decide +kernel)]; kernel_rfl) | (rw [if_neg (by decide +kernel)]; exact ⟨rfl, rfl⟩))
    (fun os started H enc _ => filesCopy_lifted os started H enc)

end Go.Proofs.Ytginlknlkbhgaaa
