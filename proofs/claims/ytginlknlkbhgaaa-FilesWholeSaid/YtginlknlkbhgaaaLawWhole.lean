/-
  Of a file that is written beside, and renamed, there is the elder text, or the new one, whole, behind a crash at whatever place: any acts ahead, two texts, any place, any part. No condition.
-/
import Derived.Test.YtginlknlkbhgaaaRowP
import Derived.Test.YtginlknlkbhgaaaFActs
import Derived.Test.YtginlknlkbhgaaaFLaws2
import Derived.Test.YtginlknlkbhgaaaFPure
namespace Go.Proofs.Ytginlknlkbhgaaa
open Go.ChangeShapes Go.WideShapes Go.ChangeAt Go.RowKit
open Go.Shelf Go.Maps

set_option maxRecDepth 100000 in
set_option maxHeartbeats 8000000 in
theorem filesWhole_walk (v : Value) (al : List ActV) (hn : al.length ≤ maxLen) (hw : ∀ a ∈ al, ActW a) (pa : ByteArray) (hpa : pa.size ≤ maxLen) (qb : ByteArray) (hqb : qb.size ≤ maxLen) (many : Int) (hmany : -9223372036854775808 ≤ many ∧ many ≤ 9223372036854775807) (part : Int) (hpart : -9223372036854775808 ≤ part ∧ part ≤ 9223372036854775807) (w : World) (hr : ActsO w w.heap.size v al) :
    Calls Try.prog 4 #[v, .string pa, .string qb, .int .i64 many, .int .i64 part] w (LawPost w) := by
  obtain ⟨o, c, rfl, hx'⟩ := id hr
  clear hx'
  have HSh := Lib.hid (shown_at w)
  have HSm := Lib.hid (small_at hr hn hw)
  have HBg := Lib.hid (begun_at 1048576 (by omega) (by omega) w)
  have hb0 : Below w.heap.size w w := Below.refl _ _
  unfold maxLen at hpa hqb
  cases hsm : smallB al with
  | false =>
    rw [hsm] at HSm
    clear hr hn hw hsm hmany hpart
    go_enter Try.func4, Try.ntmps4
    go_wp2_with (first
      | (go_at_call 11; refine (HSh.out _ hb0).mono ?_; rintro e w2 ⟨rfl, hb2⟩)
      | (go_at_call 12; refine (HSm.out _ hb2).mono ?_; rintro e w3 ⟨rfl, rfl⟩)
      | (go_at_call 13; refine (HBg.out _ hb2).mono ?_; rintro e w1 ⟨bt, bm, rfl, h0⟩))
    go_ret
    exact ⟨rfl, boxBack h0⟩
  | true =>
    rw [hsm] at HSm
    obtain ⟨hlen, hok⟩ := small_ok hsm hw
    by_cases ha1 : 500 < pa.size
    · have d1 : decide (500 < (pa.size : Int)) = true := by simp; omega
      clear hr hn hw hsm hok hmany hpart
      go_enter Try.func4, Try.ntmps4
      go_wp2_with (first
        | (go_at_call 11; refine (HSh.out _ hb0).mono ?_; rintro e w2 ⟨rfl, hb2⟩)
        | (go_at_call 12; refine (HSm.out _ hb2).mono ?_; rintro e w3 ⟨rfl, rfl⟩)
        | (go_at_call 13; refine (HBg.out _ hb2).mono ?_; rintro e w1 ⟨bt, bm, rfl, h0⟩))
      go_ret
      exact ⟨rfl, boxBack h0⟩
    have d1 : decide (500 < (pa.size : Int)) = false := by simp; omega
    by_cases ha2 : 500 < qb.size
    · have d2 : decide (500 < (qb.size : Int)) = true := by simp; omega
      clear hr hn hw hsm hok hmany hpart
      go_enter Try.func4, Try.ntmps4
      go_wp2_with (first
        | (go_at_call 11; refine (HSh.out _ hb0).mono ?_; rintro e w2 ⟨rfl, hb2⟩)
        | (go_at_call 12; refine (HSm.out _ hb2).mono ?_; rintro e w3 ⟨rfl, rfl⟩)
        | (go_at_call 13; refine (HBg.out _ hb2).mono ?_; rintro e w1 ⟨bt, bm, rfl, h0⟩))
      go_ret
      exact ⟨rfl, boxBack h0⟩
    have d2 : decide (500 < (qb.size : Int)) = false := by simp; omega
    have HX : Hid (ActsO w w.heap.size (.slice o al.length c) al) := hr
    have HO := Lib.hid hok
    clear hr hn hw hsm hok
    go_enter Try.func4, Try.ntmps4
    go_wp2_with (first
      | (go_at_call 11; refine (HSh.out _ hb0).mono ?_; rintro e w2 ⟨rfl, hb2⟩)
      | (go_at_call 12; refine (HSm.out _ hb2).mono ?_; rintro e w3 ⟨rfl, rfl⟩)
      | (go_at_call 13; refine (HBg.out _ hb2).mono ?_; rintro e w1 ⟨bt, bm, rfl, h0⟩))
    clear HSh HSm HBg
    go_loopw [15] (fun i wr => ∃ (k : Nat) (S : St), k ≤ al.length ∧ i = .int .i64 k ∧ Good 1048576 k S ∧ Bx w w1.heap.size bt bm (pairW w1 bt bm) (ZB w w1) 1048576 [(false, bt, S), (true, bm, S)] wr) (fun i _ => al.length - (intOf i).toNat)
    case atStart => exact ⟨0, _, Nat.zero_le _, rfl, Good.new (by omega) (by omega), h0.bx⟩
    case round =>
      obtain ⟨k, S, hk, rfl, hg, hcr⟩ := hrel
      by_cases hlt : k < al.length
      · obtain ⟨b, f, rfl, hkc, hcell⟩ := acts_at HX.out (List.getElem?_eq_getElem hlt)
        have hcc := hcell wr (bxBack hcr)
        have hi5 : (k : Int) < (al.length : Int) := by omega
        have hi6 : (0 : Int) ≤ (k : Int) := by omega
        by_cases hown : al[k].path = ⟨#[111, 119, 110]⟩
        · have e3 := hcc.2.2.2.1
          rw [hown] at e3
          have hgm : Good 1048576 (k + 1) S := hg.more (by omega)
          clear hcell hcc hg HX HO
          go_wp2
          go_roundw
          case rel => exact ⟨k + 1, S, hlt, by go_num, hgm, hcr⟩
          case measure => simp [intOf]; omega
        · by_cases hbes : al[k].path = ⟨#[98, 101, 115, 105, 100, 101]⟩
          · have e3 := hcc.2.2.2.1
            rw [hbes] at e3
            have hgm : Good 1048576 (k + 1) S := hg.more (by omega)
            clear hcell hcc hg HX HO
            go_wp2
            go_roundw
            case rel => exact ⟨k + 1, S, hlt, by go_num, hgm, hcr⟩
            case measure => simp [intOf]; omega
          · clear hkc hi5 hi6 hcell
            have hn1 := hown
            have hn2 := hbes
            obtain ⟨_, _, _, e3, _⟩ := hcc
            clear hown hbes
            have hne1 : ¬ al[k].path.toList = [111, 119, 110] := fun h => hn1 (toL_inj (h.trans (by decide +kernel)))
            have hne2 : ¬ al[k].path.toList = [98, 101, 115, 105, 100, 101] := fun h => hn2 (toL_inj (h.trans (by decide +kernel)))
            have hnb1 : (!al[k].path.toList == [111, 119, 110]) = true := by simp [hne1]
            have hnb2 : (!al[k].path.toList == [98, 101, 115, 105, 100, 101]) = true := by simp [hne2]
            obtain ⟨b', f', hbf, hkc, hcell⟩ := acts_at HX.out (List.getElem?_eq_getElem hlt)
            cases hbf
            have ha := HO.out _ (List.getElem_mem hlt)
            generalize al[k] = a at *
            have hi5 : (k : Int) < (al.length : Int) := by omega
            have hi6 : (0 : Int) ≤ (k : Int) := by omega
            have hk60 : k < 268435456 := by omega
            have HC : Hid (∀ l W, Bx w w1.heap.size bt bm (pairW w1 bt bm) (ZB w w1) 1048576 l W → ActCells W b f k a) := fun l W h => hcell W (bxBack h)
            have HB : Hid (∀ l W, Bx w w1.heap.size bt bm (pairW w1 bt bm) (ZB w w1) 1048576 l W → W.cell? ⟨w1.heap.size, 0, none⟩ = some (.pointer (some ⟨bt, 0, none⟩)) ∧ W.cell? ⟨w1.heap.size, 1, none⟩ = some (.pointer (some ⟨bm, 0, none⟩))) := fun l W h => bxAt h
            obtain ⟨S', hS'⟩ : ∃ S', S' = actS 1048576 S a := ⟨_, rfl⟩
            have hg' : Good 1048576 (k + 1) S' := by rw [hS']; exact hg.act a
            have H4 : Hid (∀ W, Bx w w1.heap.size bt bm (pairW w1 bt bm) (ZB w w1) 1048576 [(false, bt, S), (true, bm, S)] W → Calls Try.prog 17 #[.agg #[.pointer (some ⟨bt, 0, none⟩), .pointer (some ⟨bm, 0, none⟩)], .agg #[.int .i64 a.op, .int .i64 a.n, .int .i64 a.m, .string a.path, .string a.text]] W fun r w' => r = .returned (.bool true) ∧ Bx w w1.heap.size bt bm (pairW w1 bt bm) (ZB w w1) 1048576 [(false, bt, S'), (true, bm, S')] w') := fun W h => by
              rw [hS']; exact h.does hg hk60 a ha
            have hcrd := Bx.below hcr (below_drew (Below.refl _ _))
            clear ha hg hS' hcell HX HO 
            obtain ⟨op, an, am, ap, at'⟩ := a
            simp only [ActCells] at HC H4
            simp only at e3 hn1 hn2 hne1 hne2 hnb1 hnb2
            go_wp2
            go_region_held3 (fun W => W.cell? ⟨w1.heap.size, 0, none⟩ = some (.pointer (some ⟨bt, 0, none⟩)) ∧ W.cell? ⟨w1.heap.size, 1, none⟩ = some (.pointer (some ⟨bm, 0, none⟩)) ∧ W.cell? ⟨b, f + k * 5, none⟩ = some (.int .i64 op) ∧ W.cell? ⟨b, f + k * 5 + 1, none⟩ = some (.int .i64 an) ∧ W.cell? ⟨b, f + k * 5 + 2, none⟩ = some (.int .i64 am) ∧ W.cell? ⟨b, f + k * 5 + 3, none⟩ = some (.string ap) ∧ W.cell? ⟨b, f + k * 5 + 4, none⟩ = some (.string at'))
              (first | exact (fun h => ⟨(HB.out _ _ h).1, (HB.out _ _ h).2, HC.out _ _ h⟩) (show Bx w w1.heap.size bt bm (pairW w1 bt bm) (ZB w w1) 1048576 _ _ by assumption))
              (first | (go_at_call 17; refine (H4.out _ (by assumption)).mono ?_; rintro e w7 ⟨rfl, h7⟩))
            go_wp2
            go_roundw
            case rel => exact ⟨k + 1, S', hlt, by go_num, hg', h7⟩
            case measure => simp [intOf]; omega
      · have hk60 : k < 268435456 := by omega
        have hk61 : k + 1 < 268435456 := by omega
        have hk62 : k + 1 + 1 < 268435456 := by omega
        have hk63 : k + 1 + 1 + 1 < 268435456 := by omega
        have hm1 := bxAt hcr
        obtain ⟨S1, hS1⟩ : ∃ S1, S1 = (opR S BE).2 := ⟨_, rfl⟩
        have hg1 : Good 1048576 (k + 1) S1 := by rw [hS1]; exact hg.opR _
        have hgone : look S1.now BE = none := by rw [hS1]; exact removed
        have H1 : Hid (∀ W, Bx w w1.heap.size bt bm (pairW w1 bt bm) (ZB w w1) 1048576 [(false, bt, S), (true, bm, S)] W → Calls Try.prog 21 #[.pointer (some ⟨bt, 0, none⟩), .string ⟨#[98, 101, 115, 105, 100, 101]⟩] W fun r w' => (∃ q, r = .returned (.int .i64 q)) ∧ Bx w w1.heap.size bt bm (pairW w1 bt bm) (ZB w w1) 1048576 [(false, bt, S1), (true, bm, S)] w') := fun W h => by
          rw [hS1]; exact (h.remove hg hk60 ⟨#[98, 101, 115, 105, 100, 101]⟩ (by decide)).mono fun _ _ q => ⟨⟨_, q.1⟩, q.2⟩
        obtain ⟨fc, hfc⟩ : ∃ fc, fc = (opW 1048576 S1 OW pa.data.toList).1 := ⟨_, rfl⟩
        obtain ⟨S2, hS2⟩ : ∃ S2, S2 = (opW 1048576 S1 OW pa.data.toList).2 := ⟨_, rfl⟩
        have hg2 : Good 1048576 (k + 1 + 1) S2 := by rw [hS2]; exact hg1.opW _ _
        have H2 : Hid (∀ W, Bx w w1.heap.size bt bm (pairW w1 bt bm) (ZB w w1) 1048576 [(false, bt, S1), (true, bm, S)] W → Calls Try.prog 15 #[.pointer (some ⟨bt, 0, none⟩), .string ⟨#[111, 119, 110]⟩, .string pa] W fun r w' => r = .returned (.int .i64 fc) ∧ Bx w w1.heap.size bt bm (pairW w1 bt bm) (ZB w w1) 1048576 [(false, bt, S2), (true, bm, S)] w') := fun W h => by
          rw [hfc, hS2]; exact h.write hg1 hk61 ⟨#[111, 119, 110]⟩ pa (by decide) (by omega)
        by_cases hf : fc = 0
        · obtain ⟨gc, hgc⟩ : ∃ gc, gc = (opW 1048576 (opS S2) BE qb.data.toList).1 := ⟨_, rfl⟩
          obtain ⟨S4, hS4⟩ : ∃ S4, S4 = (opW 1048576 (opS S2) BE qb.data.toList).2 := ⟨_, rfl⟩
          have hg4 : Good 1048576 (k + 1 + 1 + 1) S4 := by rw [hS4]; exact hg2.opS.opW _ _
          have H3 : Hid (∀ W, Bx w w1.heap.size bt bm (pairW w1 bt bm) (ZB w w1) 1048576 [(false, bt, S2), (true, bm, S)] W → Calls Try.prog 22 #[.pointer (some ⟨bt, 0, none⟩)] W fun r w' => r = .returned (.tuple #[]) ∧ Bx w w1.heap.size bt bm (pairW w1 bt bm) (ZB w w1) 1048576 [(false, bt, opS S2), (true, bm, S)] w') := fun W h => h.sync hg2
          have H4 : Hid (∀ W, Bx w w1.heap.size bt bm (pairW w1 bt bm) (ZB w w1) 1048576 [(false, bt, opS S2), (true, bm, S)] W → Calls Try.prog 15 #[.pointer (some ⟨bt, 0, none⟩), .string ⟨#[98, 101, 115, 105, 100, 101]⟩, .string qb] W fun r w' => r = .returned (.int .i64 gc) ∧ Bx w w1.heap.size bt bm (pairW w1 bt bm) (ZB w w1) 1048576 [(false, bt, S4), (true, bm, S)] w') := fun W h => by
            rw [hgc, hS4]; exact h.write hg2.opS hk62 ⟨#[98, 101, 115, 105, 100, 101]⟩ qb (by decide) (by omega)
          by_cases hgz : gc = 0
          · have hpure := whole_pure hg1 pa.data.toList qb.data.toList many part hgone (by rw [← hfc]; exact hf) (by rw [← hS2, ← hgc]; exact hgz)
            rw [← hS2, ← hS4] at hpure
            obtain ⟨S5, hS5⟩ : ∃ S5, S5 = (opN S4 BE OW).2 := ⟨_, rfl⟩
            rw [← hS5] at hpure
            obtain ⟨z1, z2, z3, z4⟩ := hpure
            have hg5 : Good 1048576 (k + 1 + 1 + 1 + 1) S5 := by rw [hS5]; exact hg4.opN _ _
            have H5 : Hid (∀ W, Bx w w1.heap.size bt bm (pairW w1 bt bm) (ZB w w1) 1048576 [(false, bt, S4), (true, bm, S)] W → Calls Try.prog 23 #[.pointer (some ⟨bt, 0, none⟩), .string ⟨#[98, 101, 115, 105, 100, 101]⟩, .string ⟨#[111, 119, 110]⟩] W fun r w' => r = .returned (.int .i64 0) ∧ Bx w w1.heap.size bt bm (pairW w1 bt bm) (ZB w w1) 1048576 [(false, bt, S5), (true, bm, S)] w') := fun W h => by
              have := h.rename hg4 hk63 ⟨#[98, 101, 115, 105, 100, 101]⟩ ⟨#[111, 119, 110]⟩ (by decide) (by decide)
              rw [show (opN S4 (ByteArray.mk #[98, 101, 115, 105, 100, 101]).data.toList (ByteArray.mk #[111, 119, 110]).data.toList) = opN S4 BE OW from rfl, z1, ← hS5] at this
              exact this
            have H6 : Hid (∀ W, Bx w w1.heap.size bt bm (pairW w1 bt bm) (ZB w w1) 1048576 [(false, bt, S5), (true, bm, S)] W → Calls Try.prog 24 #[.pointer (some ⟨bt, 0, none⟩)] W fun r w' => r = .returned (.int .i64 2) ∧ W = w') := fun W h => by
              have := h.pending
              rw [z2] at this
              exact this
            obtain ⟨S6, hS6⟩ : ∃ S6, S6 = opC S5 many part := ⟨_, rfl⟩
            rw [← hS6] at z3 z4
            have H7 : Hid (∀ W, Bx w w1.heap.size bt bm (pairW w1 bt bm) (ZB w w1) 1048576 [(false, bt, S5), (true, bm, S)] W → Calls Try.prog 16 #[.pointer (some ⟨bt, 0, none⟩), .int .i64 many, .int .i64 part] W fun r w' => r = .returned (.tuple #[]) ∧ Bx w w1.heap.size bt bm (pairW w1 bt bm) (ZB w w1) 1048576 [(false, bt, S6), (true, bm, S)] w') := fun W h => by
              rw [hS6]; exact h.crash hg5 many part (by omega)
            have H8 : Hid (∀ W, Bx w w1.heap.size bt bm (pairW w1 bt bm) (ZB w w1) 1048576 [(false, bt, S6), (true, bm, S)] W → Calls Try.prog 24 #[.pointer (some ⟨bt, 0, none⟩)] W fun r w' => r = .returned (.int .i64 0) ∧ W = w') := fun W h => by
              have := h.pending
              rw [show S6.pend.length = 0 from by rw [hS6]; rfl] at this
              exact this
            have H9 : Hid (∀ t1 e1 W, opRead S6 OW = (t1, e1) → Bx w w1.heap.size bt bm (pairW w1 bt bm) (ZB w w1) 1048576 [(false, bt, S6), (true, bm, S)] W → Calls Try.prog 19 #[.pointer (some ⟨bt, 0, none⟩), .string ⟨#[111, 119, 110]⟩] W fun r w' => r = .returned (.tuple #[.string (txt t1), .int .i64 e1]) ∧ Bx w w1.heap.size bt bm (pairW w1 bt bm) (ZB w w1) 1048576 [(false, bt, S6), (true, bm, S)] w') := fun t1 e1 W he h => by
              have := h.read ⟨#[111, 119, 110]⟩ (by decide)
              rw [show opRead S6 (ByteArray.mk #[111, 119, 110]).data.toList = opRead S6 OW from rfl, he] at this
              exact this
            obtain ⟨tb, htb⟩ : ∃ tb, tb = txt (opRead S6 BE).1 := ⟨_, rfl⟩
            have H10 : Hid (∀ e1 W, (opRead S6 BE).2 = e1 → Bx w w1.heap.size bt bm (pairW w1 bt bm) (ZB w w1) 1048576 [(false, bt, S6), (true, bm, S)] W → Calls Try.prog 19 #[.pointer (some ⟨bt, 0, none⟩), .string ⟨#[98, 101, 115, 105, 100, 101]⟩] W fun r w' => r = .returned (.tuple #[.string tb, .int .i64 e1]) ∧ Bx w w1.heap.size bt bm (pairW w1 bt bm) (ZB w w1) 1048576 [(false, bt, S6), (true, bm, S)] w') := fun e1 W he h => by
              have := h.read ⟨#[98, 101, 115, 105, 100, 101]⟩ (by decide)
              rw [show opRead S6 (ByteArray.mk #[98, 101, 115, 105, 100, 101]).data.toList = opRead S6 BE from rfl, he, ← htb] at this
              exact this
            subst hf
            subst hgz
            by_cases hm2 : 2 ≤ many
            · obtain ⟨y1, y2⟩ := z3 hm2
              have HR1 := Lib.hid (fun W h => H9.out _ _ W y1 h)
              have HR2 := Lib.hid (fun W h => H10.out _ W y2 h)
              rw [txt_toList] at HR1
              clear z1 z2 z3 z4 y1 y2 hg hg1 hg2 hg4 hg5 hS1 hS2 hS4 hS5 hS6 hfc hgc hgone H9 H10 HX HO htb
              go_wp2_with (first
                | (go_at_call 21; with_reducible refine (H1.out _ hcr).mono ?_; rintro e w2 ⟨⟨q, rfl⟩, h2⟩; have hm3 := bxAt h2)
                | (go_at_call 15; with_reducible refine (H2.out _ h2).mono ?_; rintro e w3 ⟨rfl, h3⟩; have hm4 := bxAt h3)
                | (go_at_call 22; with_reducible refine (H3.out _ h3).mono ?_; rintro e w4 ⟨rfl, h4⟩; have hm5 := bxAt h4)
                | (go_at_call 15; with_reducible refine (H4.out _ h4).mono ?_; rintro e w5 ⟨rfl, h5⟩; have hm6 := bxAt h5)
                | (go_at_call 23; with_reducible refine (H5.out _ h5).mono ?_; rintro e w6 ⟨rfl, h6⟩; have hm7 := bxAt h6)
                | (go_at_call 24; with_reducible refine (H6.out _ h6).mono ?_; rintro e w7 ⟨rfl, rfl⟩)
                | (go_at_call 16; with_reducible refine (H7.out _ h6).mono ?_; rintro e w8 ⟨rfl, h8⟩; have hm8 := bxAt h8)
                | (go_at_call 19; with_reducible refine (HR1.out _ h8).mono ?_; rintro e w9 ⟨rfl, h9⟩; have hm9 := bxAt h9)
                | (go_at_call 19; with_reducible refine (HR2.out _ h9).mono ?_; rintro e w10 ⟨rfl, h10⟩; have hm10 := bxAt h10)
                | (go_at_call 24; with_reducible refine (H8.out _ h10).mono ?_; rintro e w11 ⟨rfl, rfl⟩))
              go_ret
              exact ⟨rfl, bxBack h10⟩
            · obtain ⟨y1, y2, y3⟩ := z4 hm2
              have HR1 := Lib.hid (fun W h => H9.out _ _ W y1 h)
              rw [txt_toList] at HR1
              by_cases hmo : many = 1
              · have HR2 := Lib.hid (fun W h => H10.out _ W (y2 (.inl hmo)) h)
                subst hmo
                clear z1 z2 z3 z4 y1 y2 y3 hg hg1 hg2 hg4 hg5 hS1 hS2 hS4 hS5 hS6 hfc hgc hgone H9 H10 HX HO htb
                go_wp2_with (first
                  | (go_at_call 21; with_reducible refine (H1.out _ hcr).mono ?_; rintro e w2 ⟨⟨q, rfl⟩, h2⟩; have hm3 := bxAt h2)
                  | (go_at_call 15; with_reducible refine (H2.out _ h2).mono ?_; rintro e w3 ⟨rfl, h3⟩; have hm4 := bxAt h3)
                  | (go_at_call 22; with_reducible refine (H3.out _ h3).mono ?_; rintro e w4 ⟨rfl, h4⟩; have hm5 := bxAt h4)
                  | (go_at_call 15; with_reducible refine (H4.out _ h4).mono ?_; rintro e w5 ⟨rfl, h5⟩; have hm6 := bxAt h5)
                  | (go_at_call 23; with_reducible refine (H5.out _ h5).mono ?_; rintro e w6 ⟨rfl, h6⟩; have hm7 := bxAt h6)
                  | (go_at_call 24; with_reducible refine (H6.out _ h6).mono ?_; rintro e w7 ⟨rfl, rfl⟩)
                  | (go_at_call 16; with_reducible refine (H7.out _ h6).mono ?_; rintro e w8 ⟨rfl, h8⟩; have hm8 := bxAt h8)
                  | (go_at_call 19; with_reducible refine (HR1.out _ h8).mono ?_; rintro e w9 ⟨rfl, h9⟩; have hm9 := bxAt h9)
                  | (go_at_call 19; with_reducible refine (HR2.out _ h9).mono ?_; rintro e w10 ⟨rfl, h10⟩; have hm10 := bxAt h10)
                  | (go_at_call 24; with_reducible refine (H8.out _ h10).mono ?_; rintro e w11 ⟨rfl, rfl⟩))
                go_ret
                exact ⟨rfl, bxBack h10⟩
              · by_cases hpo : 1 ≤ part
                · have HR2 := Lib.hid (fun W h => H10.out _ W (y2 (.inr hpo)) h)
                  clear z1 z2 z3 z4 y1 y2 y3 hg hg1 hg2 hg4 hg5 hS1 hS2 hS4 hS5 hS6 hfc hgc hgone H9 H10 HX HO htb
                  go_wp2_with (first
                    | (go_at_call 21; with_reducible refine (H1.out _ hcr).mono ?_; rintro e w2 ⟨⟨q, rfl⟩, h2⟩; have hm3 := bxAt h2)
                    | (go_at_call 15; with_reducible refine (H2.out _ h2).mono ?_; rintro e w3 ⟨rfl, h3⟩; have hm4 := bxAt h3)
                    | (go_at_call 22; with_reducible refine (H3.out _ h3).mono ?_; rintro e w4 ⟨rfl, h4⟩; have hm5 := bxAt h4)
                    | (go_at_call 15; with_reducible refine (H4.out _ h4).mono ?_; rintro e w5 ⟨rfl, h5⟩; have hm6 := bxAt h5)
                    | (go_at_call 23; with_reducible refine (H5.out _ h5).mono ?_; rintro e w6 ⟨rfl, h6⟩; have hm7 := bxAt h6)
                    | (go_at_call 24; with_reducible refine (H6.out _ h6).mono ?_; rintro e w7 ⟨rfl, rfl⟩)
                    | (go_at_call 16; with_reducible refine (H7.out _ h6).mono ?_; rintro e w8 ⟨rfl, h8⟩; have hm8 := bxAt h8)
                    | (go_at_call 19; with_reducible refine (HR1.out _ h8).mono ?_; rintro e w9 ⟨rfl, h9⟩; have hm9 := bxAt h9)
                    | (go_at_call 19; with_reducible refine (HR2.out _ h9).mono ?_; rintro e w10 ⟨rfl, h10⟩; have hm10 := bxAt h10)
                    | (go_at_call 24; with_reducible refine (H8.out _ h10).mono ?_; rintro e w11 ⟨rfl, rfl⟩))
                  go_ret
                  exact ⟨rfl, bxBack h10⟩
                · have HR2 := Lib.hid (fun W h => H10.out _ W (y3 (by omega)) h)
                  have d3 : decide (many = 1) = false := by simp [hmo]
                  have d4 : decide (1 ≤ part) = false := by simp; omega
                  have d5 : (many == 1) = false := by simp [hmo]
                  clear z1 z2 z3 z4 y1 y2 y3 hg hg1 hg2 hg4 hg5 hS1 hS2 hS4 hS5 hS6 hfc hgc hgone H9 H10 HX HO htb
                  go_wp2_with (first
                    | (go_at_call 21; with_reducible refine (H1.out _ hcr).mono ?_; rintro e w2 ⟨⟨q, rfl⟩, h2⟩; have hm3 := bxAt h2)
                    | (go_at_call 15; with_reducible refine (H2.out _ h2).mono ?_; rintro e w3 ⟨rfl, h3⟩; have hm4 := bxAt h3)
                    | (go_at_call 22; with_reducible refine (H3.out _ h3).mono ?_; rintro e w4 ⟨rfl, h4⟩; have hm5 := bxAt h4)
                    | (go_at_call 15; with_reducible refine (H4.out _ h4).mono ?_; rintro e w5 ⟨rfl, h5⟩; have hm6 := bxAt h5)
                    | (go_at_call 23; with_reducible refine (H5.out _ h5).mono ?_; rintro e w6 ⟨rfl, h6⟩; have hm7 := bxAt h6)
                    | (go_at_call 24; with_reducible refine (H6.out _ h6).mono ?_; rintro e w7 ⟨rfl, rfl⟩)
                    | (go_at_call 16; with_reducible refine (H7.out _ h6).mono ?_; rintro e w8 ⟨rfl, h8⟩; have hm8 := bxAt h8)
                    | (go_at_call 19; with_reducible refine (HR1.out _ h8).mono ?_; rintro e w9 ⟨rfl, h9⟩; have hm9 := bxAt h9)
                    | (go_at_call 19; with_reducible refine (HR2.out _ h9).mono ?_; rintro e w10 ⟨rfl, h10⟩; have hm10 := bxAt h10)
                    | (go_at_call 24; with_reducible refine (H8.out _ h10).mono ?_; rintro e w11 ⟨rfl, rfl⟩))
                  go_ret
                  exact ⟨rfl, bxBack h10⟩
          · clear hg hg1 hg2 hg4 hS1 hS2 hS4 hfc hgc hgone HX HO
            subst hf
            go_wp2_with (first
              | (go_at_call 21; with_reducible refine (H1.out _ hcr).mono ?_; rintro e w2 ⟨⟨q, rfl⟩, h2⟩; have hm2 := bxAt h2)
              | (go_at_call 15; with_reducible refine (H2.out _ h2).mono ?_; rintro e w3 ⟨rfl, h3⟩; have hm3 := bxAt h3)
              | (go_at_call 22; with_reducible refine (H3.out _ h3).mono ?_; rintro e w4 ⟨rfl, h4⟩; have hm4 := bxAt h4)
              | (go_at_call 15; with_reducible refine (H4.out _ h4).mono ?_; rintro e w5 ⟨rfl, h5⟩; have hm5 := bxAt h5))
            go_ret
            exact ⟨rfl, bxBack h5⟩
        · clear hg hg1 hg2 hS1 hS2 hfc hgone HX HO
          go_wp2_with (first
            | (go_at_call 21; with_reducible refine (H1.out _ hcr).mono ?_; rintro e w2 ⟨⟨q, rfl⟩, h2⟩; have hm2 := bxAt h2)
            | (go_at_call 15; with_reducible refine (H2.out _ h2).mono ?_; rintro e w3 ⟨rfl, h3⟩; have hm3 := bxAt h3))
          go_ret
          exact ⟨rfl, bxBack h3⟩

set_option maxRecDepth 100000 in
theorem filesWhole_lifted (os : Os) (started : os.Started) (H : Type) (enc : TypeId × Value → H) :
    ReturnsInHanded {} Try.checked os 4 .any (Rows.filesWholeSpec.pre6 enc Try.prog Try.f4 Rows.filesWholeRow.domain false) (Rows.filesWholeSpec.post enc Try.prog Try.f4 false true false false) := by
  refine returnsInHanded_of_change (C := Try.checked) own_knob started (by kernel_rfl) Try.func4
    (ChangeSpec.witness6 (enc := enc) (C := Try.checked) false ⟨#[], #[.slice none 0 0, .string ⟨#[]⟩, .string ⟨#[]⟩, .int .i64 0, .int .i64 0], []⟩ 8 (by kernel_rfl) (by kernel_rfl) (by kernel_rfl) (by kernel_rfl)) ?_
  intro W base args ds gs before hval0 hW _ _
  have hval : ∀ (j : Nat) t v, Try.f4.params[j]? = some t → args[j]? = some v → Value.okWide Try.prog W .any base t v := hval0
  have hW' := hW
  obtain ⟨p, q, hA0, hV, rfl, hfz, hnd⟩ := hW
  have hA : DataW.TrodAll enc Try.prog W 0 (fun _ => true) true Try.f4.params.toList args.toList ds p := hA0
  rw [Try.params4] at hA hval
  obtain ⟨v0, v1, v2, v3, v4, d0, d1, d2, d3, d4, p0, p1, p2, p3, p4, rfl, rfl, rfl, h0, h1, h2, h3, h4⟩ := trodAll_five hA
  obtain ⟨rfl, rfl⟩ := trodVars_none hV
  clear hA0 hval0
  simp only [List.append_nil] at hW'
  have hlt := fun x hx => hW'.lt x hx
  obtain ⟨⟨al0, hn0, hw0, hr0⟩, hback0⟩ := open_acts (hval 0 22 v0 rfl rfl) h0 (fun x hx => hlt x (by simp [hx]))
  obtain ⟨s1, rfl, rfl, rfl, ws1⟩ := Go.ChangeMaps.open_string Try.underlying9 (hval 1 9 v1 rfl rfl) h1
  obtain ⟨s2, rfl, rfl, rfl, ws2⟩ := Go.ChangeMaps.open_string Try.underlying9 (hval 2 9 v2 rfl rfl) h2
  obtain ⟨i3, rfl, rfl, rfl, ws3⟩ := open_int Try.underlying3 (hval 3 3 v3 rfl rfl) h3
  obtain ⟨i4, rfl, rfl, rfl, ws4⟩ := open_int Try.underlying3 (hval 4 3 v4 rfl rfl) h4
  refine (filesWhole_walk v0 al0 hn0 hw0 s1 ws1 s2 ws2 i3 (bounds_i64 ws3) i4 (bounds_i64 ws4) W hr0).mono fun e W' h => ⟨.bool true, h.1, ?_⟩
  exact post_true_at hW' rfl (by kernel_rfl) Try.underlying4 rfl (by simp only [List.append_assoc]; exact trodAll_mk5 (hback0 W' h.2) (Go.ChangeMaps.shut_string Try.underlying9 ws1) (Go.ChangeMaps.shut_string Try.underlying9 ws2) (shut_int Try.underlying3 ws3) (shut_int Try.underlying3 ws4)) h.2

theorem filesWhole_holds : Rows.FilesWholeSaid :=
  OpenClaim.holds_of_wide 4 Try.f4 rfl rfl rfl rfl rfl rfl rfl ⟨rfl, rfl, rfl, rfl, rfl⟩ rfl rfl rfl rfl rfl (by kernel_rfl) Try.func4 (by kernel_rfl)
    (of_decide_eq_true (by kernel_rfl)) (by unfold Func.isWrapper; first | (rw [if_pos (by decide +kernel)]; kernel_rfl) | (rw [if_neg (by decide +kernel)]; exact ⟨rfl, rfl⟩))
    (fun os started H enc _ => filesWhole_lifted os started H enc)

end Go.Proofs.Ytginlknlkbhgaaa
