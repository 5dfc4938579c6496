/-
  A file that is renamed, and renamed back, is as it was, and so is all else, but for what stood in the other place: behind any row of acts, for any two paths. No condition.
-/
import Derived.Test.YtginlknlkbhgaaaRowP
import Derived.Test.YtginlknlkbhgaaaFActs
import Derived.Test.YtginlknlkbhgaaaFLaws2
import Derived.Test.YtginlknlkbhgaaaFPure
namespace Go.Proofs.Ytginlknlkbhgaaa
open Go.ChangeShapes Go.WideShapes Go.ChangeAt Go.RowKit
open Go.Shelf Go.Maps

set_option maxRecDepth 100000 in
set_option maxHeartbeats 8000000 in
theorem filesTurn_walk (v : Value) (al : List ActV) (hn : al.length ≤ maxLen) (hw : ∀ a ∈ al, ActW a) (pa : ByteArray) (hpa : pa.size ≤ maxLen) (qb : ByteArray) (hqb : qb.size ≤ maxLen) (w : World) (hr : ActsO w w.heap.size v al) :
    Calls Try.prog 9 #[v, .string pa, .string qb] w (LawPost w) := by
  obtain ⟨o, c, rfl, hx'⟩ := id hr
  clear hx'
  have HSh := Lib.hid (shown_at w)
  have HSm := Lib.hid (small_at hr hn hw)
  have HBg := Lib.hid (begun_at 3000 (by omega) (by omega) w)
  have hb0 : Below w.heap.size w w := Below.refl _ _
  unfold maxLen at hpa hqb
  cases hsm : smallB al with
  | false =>
    rw [hsm] at HSm
    clear hr hn hw hsm
    go_enter Try.func9, Try.ntmps9
    go_wp2_with (first
      | (go_at_call 11; refine (HSh.out _ hb0).mono ?_; rintro e w2 ⟨rfl, hb2⟩)
      | (go_at_call 12; refine (HSm.out _ hb2).mono ?_; rintro e w3 ⟨rfl, rfl⟩)
      | (go_at_call 13; refine (HBg.out _ hb2).mono ?_; rintro e w1 ⟨bt, bm, rfl, h0⟩))
    go_ret
    exact ⟨rfl, boxBack h0⟩
  | true =>
    rw [hsm] at HSm
    obtain ⟨hlen, hok⟩ := small_ok hsm hw
    by_cases ha1 : 150 < pa.size
    · have d1 : decide (150 < (pa.size : Int)) = true := by simp; omega
      clear hr hn hw hsm hok
      go_enter Try.func9, Try.ntmps9
      go_wp2_with (first
        | (go_at_call 11; refine (HSh.out _ hb0).mono ?_; rintro e w2 ⟨rfl, hb2⟩)
        | (go_at_call 12; refine (HSm.out _ hb2).mono ?_; rintro e w3 ⟨rfl, rfl⟩)
        | (go_at_call 13; refine (HBg.out _ hb2).mono ?_; rintro e w1 ⟨bt, bm, rfl, h0⟩))
      go_ret
      exact ⟨rfl, boxBack h0⟩
    have d1 : decide (150 < (pa.size : Int)) = false := by simp; omega
    by_cases ha2 : 150 < qb.size
    · have d2 : decide (150 < (qb.size : Int)) = true := by simp; omega
      clear hr hn hw hsm hok
      go_enter Try.func9, Try.ntmps9
      go_wp2_with (first
        | (go_at_call 11; refine (HSh.out _ hb0).mono ?_; rintro e w2 ⟨rfl, hb2⟩)
        | (go_at_call 12; refine (HSm.out _ hb2).mono ?_; rintro e w3 ⟨rfl, rfl⟩)
        | (go_at_call 13; refine (HBg.out _ hb2).mono ?_; rintro e w1 ⟨bt, bm, rfl, h0⟩))
      go_ret
      exact ⟨rfl, boxBack h0⟩
    have d2 : decide (150 < (qb.size : Int)) = false := by simp; omega
    have HX : Hid (ActsO w w.heap.size (.slice o al.length c) al) := hr
    have HO := Lib.hid hok
    clear hr hn hw hsm hok
    go_enter Try.func9, Try.ntmps9
    go_wp2_with (first
      | (go_at_call 11; refine (HSh.out _ hb0).mono ?_; rintro e w2 ⟨rfl, hb2⟩)
      | (go_at_call 12; refine (HSm.out _ hb2).mono ?_; rintro e w3 ⟨rfl, rfl⟩)
      | (go_at_call 13; refine (HBg.out _ hb2).mono ?_; rintro e w1 ⟨bt, bm, rfl, h0⟩))
    clear HSh HSm HBg
    go_loopw [11] (fun i wr => ∃ (k : Nat) (S : St), k ≤ al.length ∧ i = .int .i64 k ∧ Good 3000 k S ∧ Named S ∧ Bx w w1.heap.size bt bm (pairW w1 bt bm) (ZB w w1) 3000 [(false, bt, S), (true, bm, S)] wr) (fun i _ => al.length - (intOf i).toNat)
    case atStart => exact ⟨0, _, Nat.zero_le _, rfl, Good.new (by omega) (by omega), Named.new, h0.bx⟩
    case round =>
      obtain ⟨k, S, hk, rfl, hg, hnm, hcr⟩ := hrel
      by_cases hlt : k < al.length
      · obtain ⟨b, f, rfl, hkc, hcell⟩ := acts_at HX.out (List.getElem?_eq_getElem hlt)
        have ha := HO.out _ (List.getElem_mem hlt)
        generalize al[k] = a at *
        have hi5 : (k : Int) < (al.length : Int) := by omega
        have hi6 : (0 : Int) ≤ (k : Int) := by omega
        have hk60 : k < 268435456 := by omega
        have HC : Hid (∀ l W, Bx w w1.heap.size bt bm (pairW w1 bt bm) (ZB w w1) 3000 l W → ActCells W b f k a) := fun l W h => hcell W (bxBack h)
        have HB : Hid (∀ l W, Bx w w1.heap.size bt bm (pairW w1 bt bm) (ZB w w1) 3000 l W → W.cell? ⟨w1.heap.size, 0, none⟩ = some (.pointer (some ⟨bt, 0, none⟩)) ∧ W.cell? ⟨w1.heap.size, 1, none⟩ = some (.pointer (some ⟨bm, 0, none⟩))) := fun l W h => bxAt h
        obtain ⟨S', hS'⟩ : ∃ S', S' = actS 3000 S a := ⟨_, rfl⟩
        have hg' : Good 3000 (k + 1) S' := by rw [hS']; exact hg.act a
        have hnm' : Named S' := by rw [hS']; exact hnm.act hg a
        have H4 : Hid (∀ W, Bx w w1.heap.size bt bm (pairW w1 bt bm) (ZB w w1) 3000 [(false, bt, S), (true, bm, S)] W → Calls Try.prog 17 #[.agg #[.pointer (some ⟨bt, 0, none⟩), .pointer (some ⟨bm, 0, none⟩)], .agg #[.int .i64 a.op, .int .i64 a.n, .int .i64 a.m, .string a.path, .string a.text]] W fun r w' => r = .returned (.bool true) ∧ Bx w w1.heap.size bt bm (pairW w1 bt bm) (ZB w w1) 3000 [(false, bt, S'), (true, bm, S')] w') := fun W h => by
          rw [hS']; exact h.does hg hk60 a ha
        have hcrd := Bx.below hcr (below_drew (Below.refl _ _))
        clear ha hg hS' hcell HX HO hnm 
        obtain ⟨op, an, am, ap, at'⟩ := a
        simp only [ActCells] at HC H4
        go_wp2
        go_region_held3 (fun W => W.cell? ⟨w1.heap.size, 0, none⟩ = some (.pointer (some ⟨bt, 0, none⟩)) ∧ W.cell? ⟨w1.heap.size, 1, none⟩ = some (.pointer (some ⟨bm, 0, none⟩)) ∧ W.cell? ⟨b, f + k * 5, none⟩ = some (.int .i64 op) ∧ W.cell? ⟨b, f + k * 5 + 1, none⟩ = some (.int .i64 an) ∧ W.cell? ⟨b, f + k * 5 + 2, none⟩ = some (.int .i64 am) ∧ W.cell? ⟨b, f + k * 5 + 3, none⟩ = some (.string ap) ∧ W.cell? ⟨b, f + k * 5 + 4, none⟩ = some (.string at'))
          (first | exact (fun h => ⟨(HB.out _ _ h).1, (HB.out _ _ h).2, HC.out _ _ h⟩) (show Bx w w1.heap.size bt bm (pairW w1 bt bm) (ZB w w1) 3000 _ _ by assumption))
          (first | (go_at_call 17; refine (H4.out _ (by assumption)).mono ?_; rintro e w7 ⟨rfl, h7⟩))
        go_wp2
        go_roundw
        case rel => exact ⟨k + 1, S', hlt, by go_num, hg', hnm', h7⟩
        case measure => simp [intOf]; omega
      · clear HX HO
        have hk60 : k + 9 < 268435456 := by omega
        have hk9 : k + 1 < 268435456 := by omega
        have hm1 := bxAt hcr
        obtain ⟨S1, hS1⟩ : ∃ S1, S1 = (opR S qb.data.toList).2 := ⟨_, rfl⟩
        have hg1 : Good 3000 (k + 1) S1 := by rw [hS1]; exact hg.opR _
        have hnm1 : Named S1 := by rw [hS1]; exact hnm.opR _
        have hgone : look S1.now qb.data.toList = none := by rw [hS1]; exact removed
        have hpure := turn_pure hg1 hnm1 pa.data.toList qb.data.toList hgone
        have H1 : Hid (∀ W, Bx w w1.heap.size bt bm (pairW w1 bt bm) (ZB w w1) 3000 [(false, bt, S), (true, bm, S)] W → Calls Try.prog 21 #[.pointer (some ⟨bt, 0, none⟩), .string qb] W fun r w' => (∃ q, r = .returned (.int .i64 q)) ∧ Bx w w1.heap.size bt bm (pairW w1 bt bm) (ZB w w1) 3000 [(false, bt, S1), (true, bm, S)] w') := fun W h => by
          rw [hS1]; exact (h.remove hg (by omega) qb (by omega)).mono fun _ _ q => ⟨⟨_, q.1⟩, q.2⟩
        obtain ⟨F1, hF1⟩ : ∃ F1, F1 = filesOf S1.now := ⟨_, rfl⟩
        obtain ⟨n1, hn1⟩ : ∃ n1, n1 = F1.length := ⟨_, rfl⟩
        have hn1b : n1 < 1073741824 := by rw [hn1, hF1]; unfold filesOf; have := hg1.files.len; simp; omega
        have H2 : Hid (∀ W1 Z m S2 W, Good 3000 m S2 → m < 268435456 → S2.now = S1.now → Bx w w1.heap.size bt bm W1 Z 3000 [(false, bt, S2), (true, bm, S)] W → Calls Try.prog 26 #[.pointer (some ⟨bt, 0, none⟩)] W fun r w' => ∃ o q, r = .returned (.slice o n1 q) ∧ RowA w' (fun n => W.heap.size ≤ n) (.slice o n1 q) F1 ∧ Below W.heap.size W w') := fun W1 Z m S2 W hg2 hm he h => by
          have := h.files hg2 hm
          rw [he, ← hF1, ← hn1] at this
          exact this.mono fun _ _ ⟨o, q, k1, k2, k3, k4⟩ => ⟨o, q, k1, k2, k3⟩
        obtain ⟨sz, hsz⟩ : ∃ sz, sz = (opStat S1 pa.data.toList).1 := ⟨_, rfl⟩
        obtain ⟨tm, htm⟩ : ∃ tm, tm = (opStat S1 pa.data.toList).2.1 := ⟨_, rfl⟩
        have H3 : Hid (∀ W1 Z S2 W, opStat S2 pa.data.toList = opStat S1 pa.data.toList → Bx w w1.heap.size bt bm W1 Z 3000 [(false, bt, S2), (true, bm, S)] W → Calls Try.prog 28 #[.pointer (some ⟨bt, 0, none⟩), .string pa] W fun r w' => r = .returned (.tuple #[.agg #[.int .i64 sz, .int .i64 tm], .int .i64 (opStat S1 pa.data.toList).2.2]) ∧ Below W.heap.size W w') := fun W1 Z S2 W he h => by
          have := h.statB pa (by omega)
          rw [he, ← hsz, ← htm] at this
          exact this
        have H3k : Hid (∀ W2 W3 W4 oA cA, Bx w w1.heap.size bt bm (pairW w1 bt bm) (ZB w w1) 3000 [(false, bt, S1), (true, bm, S)] W2 → RowA W3 (fun n => W2.heap.size ≤ n) (.slice oA n1 cA) F1 → Below W2.heap.size W2 W3 → Below W3.heap.size W3 W4 →
            ∃ w5 Z5 P5, w5 = W4.alloc (.cells #[.int .i64 sz, .int .i64 tm] 50) ∧ Bx w w1.heap.size bt bm w5 Z5 3000 [(false, bt, S1), (true, bm, S)] w5 ∧ ∀ l W, Bx w w1.heap.size bt bm w5 Z5 3000 l W → RowA W P5 (.slice oA n1 cA) F1 ∧ W.cell? ⟨W4.heap.size, 0, none⟩ = some (.int .i64 sz) ∧ W.cell? ⟨W4.heap.size, 1, none⟩ = some (.int .i64 tm)) := by
          intro W2 W3 W4 oA cA h2 hrow hb3 hb4
          have hb5 : Below W4.heap.size W4 (W4.alloc (.cells #[.int .i64 sz, .int .i64 tm] 50)) := (Below.refl _ _).alloc (Nat.le_refl _) _
          have hs3 := hb3.size
          have hs4 := hb4.size
          obtain ⟨Z5, k1, k2, k3⟩ := h2.prot (hb3.trans ((hb4.trans (hb5.mono hs4)).mono hs3))
          have hrow5 := RowR.below hrow (hb4.trans (hb5.mono hs4)) (Nat.le_refl _)
          refine ⟨_, Z5, _, rfl, k1, fun l W h => ⟨h.krow k2 hrow5 (fun n hn => hn), ?_⟩⟩
          have hx := h.kcell k2 (World.alloc_heap_new W4 _) (by omega)
          exact ⟨by rw [Lib.cell_of_heap hx]; rfl, by rw [Lib.cell_of_heap hx]; rfl⟩
        have H5 : Hid (∀ W P Q v u, RowA W P v F1 → RowA W Q u F1 → Calls Try.prog 27 #[v, u] W fun e w' => e = .returned (.bool true) ∧ Below W.heap.size W w') := fun W P Q v u h1 h2 => same_eq v u P Q F1 W h1 h2 (by omega)
        have HBK : Hid (∀ W1 Z l W, Bx w w1.heap.size bt bm W1 Z 3000 l W → Below w.heap.size w W) := fun W1 Z l W h => bxBack h
        have HAT : Hid (∀ W1 Z l W, Bx w w1.heap.size bt bm W1 Z 3000 l W → W.cell? ⟨w1.heap.size, 0, none⟩ = some (.pointer (some ⟨bt, 0, none⟩)) ∧ W.cell? ⟨w1.heap.size, 1, none⟩ = some (.pointer (some ⟨bm, 0, none⟩))) := fun W1 Z l W h => bxAt h
        have H4 : Hid (∀ W1 Z W, Bx w w1.heap.size bt bm W1 Z 3000 [(false, bt, S1), (true, bm, S)] W → Calls Try.prog 23 #[.pointer (some ⟨bt, 0, none⟩), .string pa, .string qb] W fun r w' => r = .returned (.int .i64 (opN S1 pa.data.toList qb.data.toList).1) ∧ Bx w w1.heap.size bt bm W1 Z 3000 [(false, bt, (opN S1 pa.data.toList qb.data.toList).2), (true, bm, S)] w') := fun W1 Z W h => h.rename hg1 (by omega) pa qb (by omega) (by omega)
        have HG1 : Hid (Good 3000 (k + 1) S1) := hg1
        by_cases hf : (opN S1 pa.data.toList qb.data.toList).1 = 0
        · obtain ⟨e0, g0, hnow, hstat⟩ := hpure.2 hf
          obtain ⟨S2, hS2⟩ : ∃ S2, S2 = (opN S1 pa.data.toList qb.data.toList).2 := ⟨_, rfl⟩
          rw [hf, ← hS2] at H4
          rw [← hS2] at g0 hnow hstat
          rw [e0] at H3
          have hk8 : k + 1 + 1 + 1 < 268435456 := by omega
          have hg2 : Good 3000 (k + 1 + 1) S2 := by rw [hS2]; exact hg1.opN _ _
          obtain ⟨S3, hS3⟩ : ∃ S3, S3 = (opN S2 qb.data.toList pa.data.toList).2 := ⟨_, rfl⟩
          rw [← hS3] at hnow hstat
          have HG3 : Hid (Good 3000 (k + 1 + 1 + 1) S3) := by rw [hS3]; exact hg2.opN _ _
          have H6 : Hid (∀ W1 Z W, Bx w w1.heap.size bt bm W1 Z 3000 [(false, bt, S2), (true, bm, S)] W → Calls Try.prog 23 #[.pointer (some ⟨bt, 0, none⟩), .string qb, .string pa] W fun r w' => r = .returned (.int .i64 0) ∧ Bx w w1.heap.size bt bm W1 Z 3000 [(false, bt, S3), (true, bm, S)] w') := fun W1 Z W h => by
            have := h.rename hg2 (by omega) qb pa (by omega) (by omega)
            rw [g0, ← hS3] at this
            exact this
          have HNW := Lib.hid hnow
          have HST := Lib.hid hstat
          clear hg hnm hg1 hnm1 hgone hpure hS1 hF1 hn1 hsz htm hf e0 g0 hnow hstat hg2 hS2 hS3 hn1b
          go_wp2_with (first
            | (go_at_call 21; refine (H1.out _ hcr).mono ?_; rintro e w2 ⟨⟨q, rfl⟩, h2⟩; have hm2 := bxAt h2)
            | (go_at_call 26; with_reducible refine (H2.out _ _ _ _ _ HG1.out hk9 rfl h2).mono ?_; rintro e w3 ⟨oA, cA, rfl, r3, hb3⟩; have hm3 := bxAt (Bx.below h2 hb3))
            | (go_at_call 28; with_reducible refine (H3.out _ _ _ _ rfl (Bx.below h2 hb3)).mono ?_; rintro e w4 ⟨rfl, hb4⟩; obtain ⟨w5, Z5, P5, hw5, h5, hk5⟩ := H3k.out _ _ _ _ _ h2 r3 hb3 hb4; have hm5 := bxAt h5; rw [hw5] at hm5; have HK5 := Lib.hid hk5; have HW5 := Lib.hid hw5; clear hw5 hk5)
            | (go_at_call 23; rw [← HW5.out]; with_reducible refine (H4.out _ _ _ h5).mono ?_; rintro e w6 ⟨rfl, h6⟩; have hm6 := bxAt h6)
            | (go_at_call 23; with_reducible refine (H6.out _ _ _ h6).mono ?_; rintro e w7 ⟨rfl, h7⟩; have hm7 := bxAt h7)
            | (go_at_call 28; with_reducible refine (H3.out _ _ _ _ HST.out h7).mono ?_; rintro e w8 ⟨rfl, hb8⟩; obtain ⟨w9, hw9⟩ : ∃ w9, w9 = w8.alloc (.cells #[.int .i64 sz, .int .i64 tm] 50) := ⟨_, rfl⟩; have h9 := Bx.below h7 (show Below w7.heap.size w7 w9 from (by rw [hw9]; exact hb8.alloc hb8.size _)); have hm9 := bxAt h9; obtain ⟨_, x0, x1⟩ := HK5.out _ _ h9; rw [hw9] at hm9 x0 x1; have HW9 := Lib.hid hw9; clear hw9)
            | (go_at_call 26; rw [← HW9.out]; with_reducible refine (H2.out _ _ _ _ _ HG3.out hk8 HNW.out h9).mono ?_; rintro e w10 ⟨oB, cB, rfl, r10, hb10⟩; have h10 := Bx.below h9 hb10)
            | (go_at_call 27; with_reducible refine (H5.out _ _ _ _ _ r10 (HK5.out _ _ h10).1).mono ?_; rintro e w11 ⟨rfl, hb11⟩))
          go_ret
          exact ⟨rfl, (HBK.out _ _ _ _ h10).trans (hb11.mono (HBK.out _ _ _ _ h10).size)⟩
        · obtain ⟨hS2, e1⟩ := hpure.1 hf
          rw [hS2] at H4
          rcases opStat_codes S1 pa.data.toList with he | he
          · rcases opN_codes S1 pa.data.toList qb.data.toList with hc | hc | hc | hc
            · exact absurd hc hf
            · skip
              rw [he] at H3
              rw [hc] at H4
              clear hg hnm hg1 hnm1 hgone hpure hS1 hF1 hn1 hsz htm hf he hc hn1b e1 hS2
              go_wp2_with (first
                | (go_at_call 21; refine (H1.out _ hcr).mono ?_; rintro e w2 ⟨⟨q, rfl⟩, h2⟩; have hm2 := bxAt h2)
                | (go_at_call 26; with_reducible refine (H2.out _ _ _ _ _ HG1.out hk9 rfl h2).mono ?_; rintro e w3 ⟨oA, cA, rfl, r3, hb3⟩; have hm3 := bxAt (Bx.below h2 hb3))
                | (go_at_call 28; with_reducible refine (H3.out _ _ _ _ rfl (Bx.below h2 hb3)).mono ?_; rintro e w4 ⟨rfl, hb4⟩; obtain ⟨w5, Z5, P5, hw5, h5, hk5⟩ := H3k.out _ _ _ _ _ h2 r3 hb3 hb4; have hm5 := bxAt h5; rw [hw5] at hm5; have HK5 := Lib.hid hk5; have HW5 := Lib.hid hw5; clear hw5 hk5)
                | (go_at_call 23; rw [← HW5.out]; with_reducible refine (H4.out _ _ _ h5).mono ?_; rintro e w6 ⟨rfl, h6⟩; have hm6 := bxAt h6)
                | (go_at_call 26; with_reducible refine (H2.out _ _ _ _ _ HG1.out hk9 rfl h6).mono ?_; rintro e w7 ⟨oB, cB, rfl, r7, hb7⟩; have h7 := Bx.below h6 hb7)
                | (go_at_call 27; with_reducible refine (H5.out _ _ _ _ _ r7 (HK5.out _ _ h7).1).mono ?_; rintro e w8 ⟨rfl, hb8⟩))
              go_ret
              exact ⟨rfl, (HBK.out _ _ _ _ h7).trans (hb8.mono (HBK.out _ _ _ _ h7).size)⟩
            · rw [he, hc] at e1; exact absurd (e1.2 rfl) (by decide)
            · skip
              rw [he] at H3
              rw [hc] at H4
              clear hg hnm hg1 hnm1 hgone hpure hS1 hF1 hn1 hsz htm hf he hc hn1b e1 hS2
              go_wp2_with (first
                | (go_at_call 21; refine (H1.out _ hcr).mono ?_; rintro e w2 ⟨⟨q, rfl⟩, h2⟩; have hm2 := bxAt h2)
                | (go_at_call 26; with_reducible refine (H2.out _ _ _ _ _ HG1.out hk9 rfl h2).mono ?_; rintro e w3 ⟨oA, cA, rfl, r3, hb3⟩; have hm3 := bxAt (Bx.below h2 hb3))
                | (go_at_call 28; with_reducible refine (H3.out _ _ _ _ rfl (Bx.below h2 hb3)).mono ?_; rintro e w4 ⟨rfl, hb4⟩; obtain ⟨w5, Z5, P5, hw5, h5, hk5⟩ := H3k.out _ _ _ _ _ h2 r3 hb3 hb4; have hm5 := bxAt h5; rw [hw5] at hm5; have HK5 := Lib.hid hk5; have HW5 := Lib.hid hw5; clear hw5 hk5)
                | (go_at_call 23; rw [← HW5.out]; with_reducible refine (H4.out _ _ _ h5).mono ?_; rintro e w6 ⟨rfl, h6⟩; have hm6 := bxAt h6)
                | (go_at_call 26; with_reducible refine (H2.out _ _ _ _ _ HG1.out hk9 rfl h6).mono ?_; rintro e w7 ⟨oB, cB, rfl, r7, hb7⟩; have h7 := Bx.below h6 hb7)
                | (go_at_call 27; with_reducible refine (H5.out _ _ _ _ _ r7 (HK5.out _ _ h7).1).mono ?_; rintro e w8 ⟨rfl, hb8⟩))
              go_ret
              exact ⟨rfl, (HBK.out _ _ _ _ h7).trans (hb8.mono (HBK.out _ _ _ _ h7).size)⟩
          · rcases opN_codes S1 pa.data.toList qb.data.toList with hc | hc | hc | hc
            · exact absurd hc hf
            · rw [he, hc] at e1; exact absurd (e1.1 rfl) (by decide)
            · skip
              rw [he] at H3
              rw [hc] at H4
              clear hg hnm hg1 hnm1 hgone hpure hS1 hF1 hn1 hsz htm hf he hc hn1b e1 hS2
              go_wp2_with (first
                | (go_at_call 21; refine (H1.out _ hcr).mono ?_; rintro e w2 ⟨⟨q, rfl⟩, h2⟩; have hm2 := bxAt h2)
                | (go_at_call 26; with_reducible refine (H2.out _ _ _ _ _ HG1.out hk9 rfl h2).mono ?_; rintro e w3 ⟨oA, cA, rfl, r3, hb3⟩; have hm3 := bxAt (Bx.below h2 hb3))
                | (go_at_call 28; with_reducible refine (H3.out _ _ _ _ rfl (Bx.below h2 hb3)).mono ?_; rintro e w4 ⟨rfl, hb4⟩; obtain ⟨w5, Z5, P5, hw5, h5, hk5⟩ := H3k.out _ _ _ _ _ h2 r3 hb3 hb4; have hm5 := bxAt h5; rw [hw5] at hm5; have HK5 := Lib.hid hk5; have HW5 := Lib.hid hw5; clear hw5 hk5)
                | (go_at_call 23; rw [← HW5.out]; with_reducible refine (H4.out _ _ _ h5).mono ?_; rintro e w6 ⟨rfl, h6⟩; have hm6 := bxAt h6)
                | (go_at_call 26; with_reducible refine (H2.out _ _ _ _ _ HG1.out hk9 rfl h6).mono ?_; rintro e w7 ⟨oB, cB, rfl, r7, hb7⟩; have h7 := Bx.below h6 hb7)
                | (go_at_call 27; with_reducible refine (H5.out _ _ _ _ _ r7 (HK5.out _ _ h7).1).mono ?_; rintro e w8 ⟨rfl, hb8⟩))
              go_ret
              exact ⟨rfl, (HBK.out _ _ _ _ h7).trans (hb8.mono (HBK.out _ _ _ _ h7).size)⟩
            · rw [he, hc] at e1; exact absurd (e1.1 rfl) (by decide)

set_option maxRecDepth 100000 in
theorem filesTurn_lifted (os : Os) (started : os.Started) (H : Type) (enc : TypeId × Value → H) :
    ReturnsInHanded {} Try.checked os 9 .any (Rows.filesTurnSpec.pre6 enc Try.prog Try.f9 Rows.filesTurnRow.domain false) (Rows.filesTurnSpec.post enc Try.prog Try.f9 false true false false) := by
  refine returnsInHanded_of_change (C := Try.checked) own_knob started (by kernel_rfl) Try.func9
    (ChangeSpec.witness6 (enc := enc) (C := Try.checked) false ⟨#[], #[.slice none 0 0, .string ⟨#[]⟩, .string ⟨#[]⟩], []⟩ 8 (by kernel_rfl) (by kernel_rfl) (by kernel_rfl) (by kernel_rfl)) ?_
  intro W base args ds gs before hval0 hW _ _
  have hval : ∀ (j : Nat) t v, Try.f9.params[j]? = some t → args[j]? = some v → Value.okWide Try.prog W .any base t v := hval0
  have hW' := hW
  obtain ⟨p, q, hA0, hV, rfl, hfz, hnd⟩ := hW
  have hA : DataW.TrodAll enc Try.prog W 0 (fun _ => true) true Try.f9.params.toList args.toList ds p := hA0
  rw [Try.params9] at hA hval
  obtain ⟨v0, v1, v2, d0, d1, d2, p0, p1, p2, rfl, rfl, rfl, h0, h1, h2⟩ := trodAll_three hA
  obtain ⟨rfl, rfl⟩ := trodVars_none hV
  clear hA0 hval0
  simp only [List.append_nil] at hW'
  have hlt := fun x hx => hW'.lt x hx
  obtain ⟨⟨al0, hn0, hw0, hr0⟩, hback0⟩ := open_acts (hval 0 22 v0 rfl rfl) h0 (fun x hx => hlt x (by simp [hx]))
  obtain ⟨s1, rfl, rfl, rfl, ws1⟩ := Go.ChangeMaps.open_string Try.underlying9 (hval 1 9 v1 rfl rfl) h1
  obtain ⟨s2, rfl, rfl, rfl, ws2⟩ := Go.ChangeMaps.open_string Try.underlying9 (hval 2 9 v2 rfl rfl) h2
  refine (filesTurn_walk v0 al0 hn0 hw0 s1 ws1 s2 ws2 W hr0).mono fun e W' h => ⟨.bool true, h.1, ?_⟩
  exact post_true_at hW' rfl (by kernel_rfl) Try.underlying4 rfl (by rw [List.append_assoc]; exact trodAll_mk3 (hback0 W' h.2) (Go.ChangeMaps.shut_string Try.underlying9 ws1) (Go.ChangeMaps.shut_string Try.underlying9 ws2)) h.2

theorem filesTurn_holds : Rows.FilesTurnSaid :=
  OpenClaim.holds_of_wide 9 Try.f9 rfl rfl rfl rfl rfl rfl rfl ⟨rfl, rfl, rfl, rfl, rfl⟩ rfl rfl rfl rfl rfl (by kernel_rfl) Try.func9 (by kernel_rfl)
    (of_decide_eq_true (by kernel_rfl)) (by unfold Func.isWrapper; first | (rw [if_pos (by decide +kernel)]; kernel_rfl) | (rw [if_neg (by decide +kernel)]; exact ⟨rfl, rfl⟩))
    (fun os started H enc _ => filesTurn_lifted os started H enc)

end Go.Proofs.Ytginlknlkbhgaaa
