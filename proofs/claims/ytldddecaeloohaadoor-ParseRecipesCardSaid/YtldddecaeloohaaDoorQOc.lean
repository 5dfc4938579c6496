/-
  What the program's rule answers. For every two texts of at most a million bytes. No condition.
-/
import Derived.Test.YtldddecaeloohaaDoorQR
namespace Go.Proofs.YtldddecaeloohaaDoor
open Go.RowKit Go.Shelf
attribute [local go_sem] Oper.semAt_some

theorem bar_none (l : BS) (h : (cutOf [[124]] l).2.1 = []) : (cutOf [[124]] (cutOf [[124]] l).2.2).2.1 = [] := by
  rcases cut_whole [[124]] l with ⟨_, _, h2⟩ | ⟨_, h2, _⟩
  · rw [h2]; rfl
  · exact absurd h h2
/-- What a rule's targets and pattern have wrong. -/
def ruleOk (a b : BS) : Bool := !(decide ((cutOf [[58]] b).2.1 ≠ [] ∧ rulePat b = []) || decide (trimOf a = []) || decide ((cutOf [[58]] (ruleRest b)).2.1 ≠ []))
theorem rule_ok (a b : BS) : (ruleL 0 a b) = if ruleOk a b && decide ((cutOf [[124]] (cutOf [[124]] (ruleRest b)).2.2).2.1 = []) then some ⟨2, 0, [], [], [], trimOf a, rulePat b, trimOf (cutOf [[124]] (ruleRest b)).1, trimOf (cutOf [[124]] (ruleRest b)).2.2, []⟩ else none := by
  have h : ruleBad a b = !(ruleOk a b && decide ((cutOf [[124]] (cutOf [[124]] (ruleRest b)).2.2).2.1 = [])) := by
    unfold ruleBad ruleOk
    rw [Bool.not_and, Bool.not_not]
    congr 1
    by_cases h1 : (cutOf [[124]] (ruleRest b)).2.1 = []
    · rw [bar_none _ h1]; simp [h1]
    · by_cases h2 : (cutOf [[124]] (cutOf [[124]] (ruleRest b)).2.2).2.1 = [] <;> simp [h1, h2]
  unfold ruleL
  rw [h]
  cases (ruleOk a b && decide ((cutOf [[124]] (cutOf [[124]] (ruleRest b)).2.2).2.1 = [])) <;> rfl
set_option maxRecDepth 100000 in
set_option maxHeartbeats 8000000 in
theorem rule_any (a b : ByteArray) (ha : a.size ≤ 1000000) (hb : b.size ≤ 1000000) (w : World) : Calls Tryd.prog 62 #[.string a, .string b] w (OnePost (ruleL 0 a.data.toList b.data.toList) w) := by
  have HTa := Lib.hid (trimQ a ha)
  have HC1 := Lib.hid (pcutOne 58 b hb)
  obtain ⟨k1, hk1⟩ : ∃ x, x = (cutOf [[58]] b.data.toList).1 := ⟨_, rfl⟩
  obtain ⟨k2, hk2⟩ : ∃ x, x = (cutOf [[58]] b.data.toList).2.1 := ⟨_, rfl⟩
  obtain ⟨k3, hk3⟩ : ∃ x, x = (cutOf [[58]] b.data.toList).2.2 := ⟨_, rfl⟩
  obtain ⟨tg, htg⟩ : ∃ x, x = trimOf a.data.toList := ⟨_, rfl⟩
  rw [← hk1, ← hk2, ← hk3] at HC1
  rw [← htg] at HTa
  have hl1 := cut_len [[58]] b.data.toList
  rw [← hk1, ← hk3, size_list] at hl1
  obtain ⟨pt, hpt⟩ : ∃ x, x = trimOf k1 := ⟨_, rfl⟩
  have HTk := Lib.hid (trimQ (txt k1) (by rw [txt_size]; omega))
  rw [txt_data, ← hpt] at HTk
  have HI := Lib.hid (isThere_any 58 (txt k3) (by rw [txt_size]; omega))
  rw [txt_data] at HI
  have HK : Hid (k1 = (cutOf [[58]] b.data.toList).1 ∧ k2 = (cutOf [[58]] b.data.toList).2.1 ∧ k3 = (cutOf [[58]] b.data.toList).2.2 ∧ tg = trimOf a.data.toList ∧ pt = trimOf k1) := ⟨hk1, hk2, hk3, htg, hpt⟩
  clear hk1 hk2 hk3 htg hpt
  have e0 : txt [] = ⟨#[]⟩ := rfl
  have E0 := Lib.hid e0
  clear e0
  go_enter Tryd.func62, Tryd.ntmps62
  go_wp2_with fail
  have hZ : ZeroP w (w.alloc (.cells #[.int .i64 0, .int .i64 0, .string ⟨#[]⟩, .string ⟨#[]⟩, .string ⟨#[]⟩, .string ⟨#[]⟩, .string ⟨#[]⟩, .string ⟨#[]⟩, .string ⟨#[]⟩, .slice none 0 0] 49)) := ZeroP.start w
  generalize w.alloc (.cells #[.int .i64 0, .int .i64 0, .string ⟨#[]⟩, .string ⟨#[]⟩, .string ⟨#[]⟩, .string ⟨#[]⟩, .string ⟨#[]⟩, .string ⟨#[]⟩, .string ⟨#[]⟩, .slice none 0 0] 49) = w0 at hZ ⊢
  refine (HTa.out _).mono ?_
  rintro e w1 ⟨rfl, hb1⟩
  have hN0 := (hZ.below hb1).own #[.int .i64 2, .int .i64 0, .string ⟨#[]⟩, .string ⟨#[]⟩, .string ⟨#[]⟩, .string (txt tg), .string ⟨#[]⟩, .string ⟨#[]⟩, .string ⟨#[]⟩, .slice none 0 0]
  have eb1 : (txt tg).toList.isEmpty = decide (tg = []) := by rw [txt_toL]; cases tg <;> rfl
  obtain ⟨bt, hbt⟩ : ∃ x, x = decide (tg = []) := ⟨_, rfl⟩
  rw [← hbt] at eb1
  have HBt := Lib.hid hbt
  obtain ⟨K, hK⟩ : ∃ K, K = w1.heap.size := ⟨_, rfl⟩
  clear hZ hb1 HTa hbt
  go_wp2_with fail
  have hsz : K + 1 = (w1.alloc (.cells #[.int .i64 2, .int .i64 0, .string ⟨#[]⟩, .string ⟨#[]⟩, .string ⟨#[]⟩, .string (txt tg), .string ⟨#[]⟩, .string ⟨#[]⟩, .string ⟨#[]⟩, .slice none 0 0] 49)).heap.size := by rw [hK]; simp
  rw [← hK] at hN0 ⊢
  generalize w1.alloc (.cells #[.int .i64 2, .int .i64 0, .string ⟨#[]⟩, .string ⟨#[]⟩, .string ⟨#[]⟩, .string (txt tg), .string ⟨#[]⟩, .string ⟨#[]⟩, .string ⟨#[]⟩, .slice none 0 0] 49) = W1 at hN0 hsz ⊢
  refine (HC1.out W1 (K + 1) hsz).mono ?_
  rintro e w2 ⟨rfl, hb2⟩
  have hN1 := hN0.below hb2
  have HN1 := Lib.hid hN1
  obtain ⟨⟨c0, c1, c2, c3, c4, c5, c6, c7, c8, c9⟩, fk⟩ := hN1.cells
  clear hN0 hb2 hsz hK hN1 HC1
  obtain ⟨bb, eb⟩ : ∃ bb, (txt k2).toList.isEmpty = bb := ⟨_, rfl⟩
  go_upto_if 28 with fail
  go_cut [1, 7] (fun bv ov wx => ∃ zb : ByteArray, bv = .string zb ∧ zb.data.toList = ruleRest b.data.toList ∧ zb.size ≤ 1000000 ∧ ov = .bool (ruleOk a.data.toList b.data.toList) ∧ TwoP w wx K (cellsN ⟨2, 0, [], [], [], tg, rulePat b.data.toList, [], [], []⟩))
  case first =>
    cases bb with
    | true =>
      have h0 : k2 = [] := by rw [txt_toL] at eb; simpa using eb
      have HE : Hid (ruleRest b.data.toList = b.data.toList ∧ rulePat b.data.toList = [] ∧ (!bt) = ruleOk a.data.toList b.data.toList) := by
        obtain ⟨_, h2, _, h4, _⟩ := HK.out
        have e1 : ruleRest b.data.toList = b.data.toList := by unfold ruleRest; rw [← h2, if_pos h0]
        have e2 : rulePat b.data.toList = [] := by unfold rulePat; rw [← h2, if_pos h0]
        refine ⟨e1, e2, ?_⟩
        unfold ruleOk
        rw [e1, e2, ← h2, h0, HBt.out, ← h4]; simp
      clear h0
      go_wp2
      go_meet
      exact ⟨b, rfl, HE.out.1.symm, hb, by rw [HE.out.2.2], by rw [HE.out.2.1]; exact HN1.out⟩
    | false =>
      have h0 : k2 ≠ [] := by rw [txt_toL] at eb; simpa using eb
      obtain ⟨q2, hq2⟩ : ∃ x, x = (cutOf [[58]] k3).2.1 := ⟨_, rfl⟩
      have HE : Hid (ruleRest b.data.toList = k3 ∧ rulePat b.data.toList = pt ∧ (!(decide (pt = []) || bt || !decide (q2 = []))) = ruleOk a.data.toList b.data.toList) := by
        obtain ⟨h1, h2, h3, h4, h5⟩ := HK.out
        have e1 : ruleRest b.data.toList = k3 := by unfold ruleRest; rw [← h2, if_neg h0, h3]
        have e2 : rulePat b.data.toList = pt := by unfold rulePat; rw [← h2, if_neg h0, ← h1, h5]
        refine ⟨e1, e2, ?_⟩
        unfold ruleOk
        rw [e1, e2, ← h2, ← hq2, HBt.out, ← h4]
        by_cases h6 : pt = [] <;> by_cases h7 : q2 = [] <;> simp [h0, h6, h7]
      rw [← hq2] at HI
      have eb2 : (txt pt).toList.isEmpty = decide (pt = []) := by rw [txt_toL]; cases pt <;> rfl
      generalize decide (pt = []) = bp at eb2 HE
      generalize decide (q2 = []) = bq at HI HE
      have h3l : k3.length ≤ 1000000 := by omega
      clear h0 hq2 c0 c1 c2 c3 c4 c5 c6 c7 c8 c9 fk
      go_wp2_with fail
      refine (HTk.out _).mono ?_
      rintro e w3 ⟨rfl, hb3⟩
      have hN3 := HN1.out.below hb3
      obtain ⟨⟨c0, c1, c2, c3, c4, c5, c6, c7, c8, c9⟩, fk⟩ := hN3.cells
      have HN3 := Lib.hid (hN3.set 6 (.string (txt pt)))
      clear hN3 hb3
      cases bt <;> cases bp <;> cases bq <;> (
        go_wp2_with (first | (go_at_call 78; refine (HI.out _).mono ?_; rintro e w4 ⟨rfl, hb4⟩))
        go_meet
        first
          | exact ⟨txt k3, rfl, by rw [HE.out.1, txt_data], by rw [txt_size]; exact h3l, by rw [← HE.out.2.2]; rfl, by rw [HE.out.2.1]; exact HN3.out⟩
          | exact ⟨txt k3, rfl, by rw [HE.out.1, txt_data], by rw [txt_size]; exact h3l, by rw [← HE.out.2.2]; rfl, by rw [HE.out.2.1]; exact HN3.out.below hb4⟩)
  case rest =>
    obtain ⟨zb, rfl, hzb, hzs, rfl, hN⟩ := hcut
    clear c0 c1 c2 c3 c4 c5 c6 c7 c8 c9 fk HN1 HTk HI eb eb1 HBt
    have HC3 := Lib.hid (pcutOne 124 zb hzs)
    have hl2 := cut_len [[124]] zb.data.toList
    have hro := rule_ok a.data.toList b.data.toList
    rw [← hzb] at hro
    obtain ⟨m1, hm1⟩ : ∃ x, x = (cutOf [[124]] zb.data.toList).1 := ⟨_, rfl⟩
    obtain ⟨m2, hm2⟩ : ∃ x, x = (cutOf [[124]] zb.data.toList).2.1 := ⟨_, rfl⟩
    obtain ⟨m3, hm3⟩ : ∃ x, x = (cutOf [[124]] zb.data.toList).2.2 := ⟨_, rfl⟩
    rw [← hm1, ← hm2, ← hm3] at HC3
    rw [← hm1, ← hm3] at hro
    rw [← hm1, ← hm3, size_list] at hl2
    have HI := Lib.hid (isThere_any 124 (txt m3) (by rw [txt_size]; omega))
    rw [txt_data] at HI
    obtain ⟨q2, hq2⟩ : ∃ x, x = (cutOf [[124]] m3).2.1 := ⟨_, rfl⟩
    rw [← hq2] at HI hro
    obtain ⟨y1, hy1⟩ : ∃ x, x = trimOf m1 := ⟨_, rfl⟩
    obtain ⟨y3, hy3⟩ : ∃ x, x = trimOf m3 := ⟨_, rfl⟩
    have HT1 := Lib.hid (trimQ (txt m1) (by rw [txt_size]; omega))
    have HT3 := Lib.hid (trimQ (txt m3) (by rw [txt_size]; omega))
    rw [txt_data, ← hy1] at HT1
    rw [txt_data, ← hy3] at HT3
    rw [← hy1, ← hy3, ← HK.out.2.2.2.1] at hro
    obtain ⟨pr, hpr⟩ : ∃ x, x = rulePat b.data.toList := ⟨_, rfl⟩
    rw [← hpr] at hro hN
    generalize ruleOk a.data.toList b.data.toList = ok at hro ⊢
    generalize decide (q2 = []) = bq at HI hro
    have HP : Hid (∀ W, Below w.heap.size w W → OnePost (ruleL 0 a.data.toList b.data.toList) w (.returned (.tuple #[.agg (cellsN ⟨2, 0, [], [], [], tg, pr, y1, y3, []⟩), .bool (ok && bq)])) W) := fun W hW => by
      refine ⟨_, by rw [hro]; cases (ok && bq) <;> rfl, fun n hn => ?_, hW⟩
      rw [hro] at hn
      split at hn
      · cases hn; rfl
      · cases hn
    clear hzb hzs hl2 hro hm1 hm2 hm3 hq2 hy1 hy3 hpr HK
    go_wp2_with fail
    refine (HC3.out _ _ rfl).mono ?_
    rintro e w2 ⟨rfl, hb2⟩
    have hN2 := hN.below hb2
    clear hN hb2 HC3
    obtain ⟨⟨c0, c1, c2, c3, c4, c5, c6, c7, c8, c9⟩, fk⟩ := hN2.cells
    go_upto_region 10 with (first
      | (go_at_call 44; with_reducible refine (HT1.out _).mono ?_; rintro e w3 ⟨rfl, hb3⟩; obtain ⟨⟨c0, c1, c2, c3, c4, c5, c6, c7, c8, c9⟩, fk⟩ := (hN2.below hb3).cells)
      | (go_at_call 44; with_reducible refine (HT3.out _).mono ?_; rintro e w4 ⟨rfl, hb4⟩; obtain ⟨⟨c0, c1, c2, c3, c4, c5, c6, c7, c8, c9⟩, fk⟩ := ((hN2.below hb3).below hb4).cells))
    have hN9 := (((hN2.below hb3).below hb4).set 7 (.string (txt y1))).set 8 (.string (txt y3))
    clear hN2 hb3 hb4 HT1 HT3
    generalize (w4.setCell ⟨K, 7, none⟩ (.string (txt y1))).setCell ⟨K, 8, none⟩ (.string (txt y3)) = W9 at hN9 ⊢
    clear c0 c1 c2 c3 c4 c5 c6 c7 c8 c9 fk
    change TwoP w W9 K #[.int .i64 2, .int .i64 0, .string (txt []), .string (txt []), .string (txt []), .string (txt tg), .string (txt pr), .string (txt y1), .string (txt y3), .slice none 0 0] at hN9
    obtain ⟨⟨p0, p1, p2, p3, p4, p5, p6, p7, p8, p9⟩, pk⟩ := hN9.cells
    obtain ⟨hz, fz⟩ := hN9.zcells
    obtain ⟨z0, hz0⟩ := hz 0 (by omega)
    obtain ⟨z1, hz1⟩ := hz 1 (by omega)
    obtain ⟨z2, hz2⟩ := hz 2 (by omega)
    obtain ⟨z3, hz3⟩ := hz 3 (by omega)
    obtain ⟨z4, hz4⟩ := hz 4 (by omega)
    obtain ⟨z5, hz5⟩ := hz 5 (by omega)
    obtain ⟨z6, hz6⟩ := hz 6 (by omega)
    obtain ⟨z7, hz7⟩ := hz 7 (by omega)
    obtain ⟨z8, hz8⟩ := hz 8 (by omega)
    obtain ⟨z9, hz9⟩ := hz 9 (by omega)
    clear hz
    have HN9 := Lib.hid hN9
    clear hN9
    cases ok with
    | false =>
      clear HI
      go_region
      all_goals (
        go_wp2
        obtain ⟨hbk, r0, r1, r2, r3, r4, r5, r6, r7, r8, r9⟩ := HN9.out.finD (.int .i64 2) (.int .i64 0) (.string (txt [])) (.string (txt [])) (.string (txt [])) (.string (txt tg)) (.string (txt pr)) (.string (txt y1)) (.string (txt y3)) (.slice none 0 0)
        unfold doneN at hbk r0 r1 r2 r3 r4 r5 r6 r7 r8 r9
        exact bodyPost_ret (v := .tuple #[.agg (cellsN ⟨2, 0, [], [], [], tg, pr, y1, y3, []⟩), .bool false]) (by simp [results, Tryd.results62, go_sem, r0, r1, r2, r3, r4, r5, r6, r7, r8, r9]) rfl (HP.out _ hbk))
    | true =>
      go_region_with (first
        | (go_at_call 78; refine (HI.out _).mono ?_; rintro e w5 ⟨rfl, hb5⟩; have HN5 := Lib.hid ((HN9.out.below (show Below W9.heap.size W9 W9.drew from drewN_below' (Below.refl _ _))).below hb5); obtain ⟨⟨g0, g1, g2, g3, g4, g5, g6, g7, g8, g9⟩, gk⟩ := HN5.out.cells; obtain ⟨hz, fz⟩ := HN5.out.zcells; obtain ⟨v0, hv0⟩ := hz 0 (by omega); obtain ⟨v1, hv1⟩ := hz 1 (by omega); obtain ⟨v2, hv2⟩ := hz 2 (by omega); obtain ⟨v3, hv3⟩ := hz 3 (by omega); obtain ⟨v4, hv4⟩ := hz 4 (by omega); obtain ⟨v5, hv5⟩ := hz 5 (by omega); obtain ⟨v6, hv6⟩ := hz 6 (by omega); obtain ⟨v7, hv7⟩ := hz 7 (by omega); obtain ⟨v8, hv8⟩ := hz 8 (by omega); obtain ⟨v9, hv9⟩ := hz 9 (by omega); clear hz))
      all_goals (
        go_wp2
        obtain ⟨hbk, r0, r1, r2, r3, r4, r5, r6, r7, r8, r9⟩ := HN5.out.fin (.int .i64 2) (.int .i64 0) (.string (txt [])) (.string (txt [])) (.string (txt [])) (.string (txt tg)) (.string (txt pr)) (.string (txt y1)) (.string (txt y3)) (.slice none 0 0)
        unfold doneN at hbk r0 r1 r2 r3 r4 r5 r6 r7 r8 r9
        exact bodyPost_ret (v := .tuple #[.agg (cellsN ⟨2, 0, [], [], [], tg, pr, y1, y3, []⟩), .bool bq]) (by simp [results, Tryd.results62, go_sem, r0, r1, r2, r3, r4, r5, r6, r7, r8, r9]) rfl (HP.out _ hbk))
end Go.Proofs.YtldddecaeloohaaDoor
