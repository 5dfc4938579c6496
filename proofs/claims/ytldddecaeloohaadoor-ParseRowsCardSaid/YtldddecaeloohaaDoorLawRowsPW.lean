/-
  ParseRows, over what each call of Parse tells: it answers true, and turns nothing that lay there. For every two rows of lines.
-/
import Derived.Deep.RegionHeld3
import Derived.Deep.QuietTactic
import Derived.BigQuiet
import Derived.Test.YtldddecaeloohaaDoorPRw
namespace Go.Proofs.YtldddecaeloohaaDoor
open Go.RowKit Go.Shelf
attribute [local go_sem] Oper.semAt_some

theorem plain_tab {all : List LineI} {p : Nat} {x : LineI} (h : all[p]? = some x) (ht : x.2.1 = true) : plainL (all.drop p) = plainL (all.drop (p + 1)) := by
  obtain ⟨hp, rfl⟩ := List.getElem?_eq_some_iff.1 h
  rw [List.drop_eq_getElem_cons hp]
  unfold plainL
  rw [List.filter_cons, ht]; rfl
theorem plain_text {all : List LineI} {p : Nat} {x : LineI} (h : all[p]? = some x) (ht : x.2.1 = false) : plainL (all.drop p) = x :: plainL (all.drop (p + 1)) := by
  obtain ⟨hp, rfl⟩ := List.getElem?_eq_some_iff.1 h
  rw [List.drop_eq_getElem_cons hp]
  unfold plainL
  rw [List.filter_cons, ht]; rfl
theorem rows_facts (l k : List LineI) : ((parseOf l).2.1 = 0 → (parseOf k).2.1 = 0 → (parseOf (l ++ k)).2.1 = 0 ∧ (parseOf (l ++ k)).2.2 = 0 ∧ (parseOf (l ++ k)).1.length = (parseOf l).1.length + (parseOf k).1.length) ∧
    ((parseOf (l ++ k)).2.1 = 0 → (parseOf (l ++ k)).1.map (·.no) = (plainL (l ++ k)).map (·.1)) ∧ ((parseOf (l ++ k)).2.1 = 0 → ∀ n ∈ (parseOf (l ++ k)).1, 1 ≤ n.kind ∧ n.kind ≤ 6) ∧
    ((parseOf (l ++ k)).2.1 ≠ 0 → (parseOf (l ++ k)).1 = []) := by
  refine ⟨fun h1 h2 => ?_, fun h => ?_, fun h => ?_, parse_err (l ++ k) [] []⟩
  · have e1 : parseOf l = ((parseOf l).1, 0, (parseOf l).2.2) := Prod.ext rfl (Prod.ext h1 rfl)
    have e2 : parseOf k = ((parseOf k).1, 0, (parseOf k).2.2) := Prod.ext rfl (Prod.ext h2 rfl)
    have h3 := rows_law e1 e2
    have h4 : (parseOf k).2.2 = 0 := parse_no k [] [] (.inl h2)
    rw [h3]
    exact ⟨rfl, h4, by simp⟩
  · have := nums_law (l ++ k) [] [] _ (parseOf (l ++ k)).2.2 (Prod.ext rfl (Prod.ext h rfl))
    exact this
  · exact kinds_law (l ++ k) [] [] _ (parseOf (l ++ k)).2.2 (Prod.ext rfl (Prod.ext h rfl)) (by simp)

theorem rowsP_facts (l k : List LineI) : ((parseP l).2.1 = 0 → (parseP k).2.1 = 0 → (parseP (l ++ k)).2.1 = 0 ∧ (parseP (l ++ k)).2.2 = 0 ∧ (parseP (l ++ k)).1.length = (parseP l).1.length + (parseP k).1.length) ∧
    ((parseP (l ++ k)).2.1 = 0 → (parseP (l ++ k)).1.map (·.no) = (plainL (l ++ k)).map (·.1)) ∧ ((parseP (l ++ k)).2.1 = 0 → ∀ n ∈ (parseP (l ++ k)).1, 1 ≤ n.kind ∧ n.kind ≤ 6) ∧
    ((parseP (l ++ k)).2.1 ≠ 0 → (parseP (l ++ k)).1 = []) := by
  obtain ⟨f1, f2, f3, _⟩ := rows_facts l k
  refine ⟨fun h1 h2 => ?_, fun h => ?_, fun h => ?_, parseP_err⟩
  · have e1 := parseP_ok (l := l) (by omega)
    have e2 := parseP_ok (l := k) (by omega)
    rw [e1] at h1 ⊢
    rw [e2] at h2 ⊢
    have h3 := f1 h1 h2
    rw [parseP_right (l := l ++ k) (by omega)]
    exact h3
  · have e := parseP_ok (l := l ++ k) (by omega)
    rw [e] at h ⊢
    exact f2 h
  · have e := parseP_ok (l := l ++ k) (by omega)
    rw [e] at h ⊢
    exact f3 h
set_option maxRecDepth 100000 in
set_option maxHeartbeats 16000000 in
theorem parseRows_over (HP : ParseC) (v0 v1 : Value) (l k : List LineI) (w : World) (hr0 : ReadsL w w.heap.size v0 l) (hr1 : ReadsL w w.heap.size v1 k) (hn0 : l.length ≤ maxLen) (hn1 : k.length ≤ maxLen) :
    Calls Tryd.prog 7 #[v0, v1] w (LawPost w) := by
  have HSh := Lib.hid (shown9_at HP w w (Below.refl _ _))
  have HR0 := Lib.hid hr0
  have HR1 := Lib.hid hr1
  have HA0 : Hid (∀ W, Below w.heap.size w W → Calls Tryd.prog 16 #[v0] W (AsPost l W)) := fun W hW => as_any v0 l W (HR0.out.below hW hW.size)
  have HA1 : Hid (∀ W, Below w.heap.size w W → Calls Tryd.prog 16 #[v1] W (AsPost k W)) := fun W hW => as_any v1 k W (HR1.out.below hW hW.size)
  obtain ⟨o, c, rfl, _⟩ := hr0
  obtain ⟨o', c', rfl, _⟩ := hr1
  have hnm : l.length ≤ 9223372036854775807 := hn0
  have hnm1 : k.length ≤ 9223372036854775807 := hn1
  go_enter Tryd.func7, Tryd.ntmps7
  go_wp2_with (go_at_call 10; refine HSh.out.mono ?_; rintro e w1 ⟨rfl, hb1⟩)
  refine (HA0.out w1 hb1).mono ?_
  rintro e w2 (⟨_, rfl, hb2⟩ | ⟨⟨hl60, hl400⟩, o2, c2, rfl, _, hb2⟩)
  · have hb12 := hb1.trans (hb2.mono hb1.size)
    go_wp2_with fail
    refine (HA1.out w2 hb12).mono ?_
    rintro e w3 (⟨_, rfl, hb3⟩ | ⟨_, o3, c3, rfl, _, hb3⟩)
    · go_wp2
      go_ret
      exact ⟨rfl, hb12.trans (hb3.mono hb12.size)⟩
    · go_wp2
      go_ret
      exact ⟨rfl, hb12.trans (hb3.mono hb12.size)⟩
  have hb12 := hb1.trans (hb2.mono hb1.size)
  go_wp2_with fail
  refine (HA1.out w2 hb12).mono ?_
  rintro e w3 (⟨_, rfl, hb3⟩ | ⟨⟨hk60, hk400⟩, o3, c3, rfl, _, hb3⟩)
  · go_wp2
    go_ret
    exact ⟨rfl, hb12.trans (hb3.mono hb12.size)⟩
  have hb13 := hb12.trans (hb3.mono hb12.size)
  have H1 := Lib.hid (HP _ l w3 (HR0.out.below hb13 hb13.size) (by omega) (fun x hx => Nat.le_trans (hl400 x hx) (by omega)))
  have H2 : Hid (∀ W, Below w3.heap.size w3 W → Calls Tryd.prog 12 #[.slice o' k.length c'] W (ParsePost (parseP k) W)) := fun W hW =>
    HP _ k W (HR1.out.below (hb13.trans (hW.mono hb13.size)) (hb13.trans (hW.mono hb13.size)).size) (by omega) (fun x hx => Nat.le_trans (hk400 x hx) (by omega))
  have H3 : Hid (∀ v W, ReadsL W W.heap.size v (l ++ k) → Calls Tryd.prog 12 #[v] W (ParsePost (parseP (l ++ k)) W)) := fun v W hv =>
    HP v (l ++ k) W hv (by rw [List.length_append]; omega) (fun x hx => by
      rcases List.mem_append.1 hx with hx | hx
      · exact Nat.le_trans (hl400 x hx) (by omega)
      · exact Nat.le_trans (hk400 x hx) (by omega))
  have HB3 := Lib.hid hb13
  have HRR : Hid (∀ W, Below w3.heap.size w3 W → ReadsL W W.heap.size (.slice o l.length c) l ∧ ReadsL W W.heap.size (.slice o' k.length c') k) := fun W hW =>
    ⟨HR0.out.below (HB3.out.trans (hW.mono HB3.out.size)) (HB3.out.trans (hW.mono HB3.out.size)).size, HR1.out.below (HB3.out.trans (hW.mono HB3.out.size)) (HB3.out.trans (hW.mono HB3.out.size)).size⟩
  have hfacts := rowsP_facts l k
  have hlen : (parseP l).1.length ≤ 60 ∧ (parseP k).1.length ≤ 60 ∧ (parseP (l ++ k)).1.length ≤ 120 := by
    have a1 := parseP_few l
    have a2 := parseP_few k
    have a3 := parseP_few (l ++ k)
    rw [List.length_append] at a3
    omega
  clear hb1 hb2 hb12 hb3 hb13 hl400 hk400 HA0 HA1 HR0 HR1 HSh
  generalize parseP l = p1 at H1 hfacts hlen
  generalize parseP k = p2 at H2 hfacts hlen
  generalize parseP (l ++ k) = p3 at H3 hfacts hlen
  obtain ⟨a1, e1, n1⟩ := p1
  obtain ⟨b1, e2, n2⟩ := p2
  obtain ⟨d1, e3, n3⟩ := p3
  obtain ⟨hrows, hnums, hkinds, herr⟩ := hfacts
  simp only at hrows hnums hkinds herr hlen
  obtain ⟨hla, hlb, hld⟩ := hlen
  go_wp2_with fail
  refine H1.out.mono ?_
  rintro e w4 ⟨o4, c4, rfl, _, hb4⟩
  go_wp2_with fail
  refine (H2.out w4 hb4).mono ?_
  rintro e w5 ⟨o5, c5, rfl, _, hb5⟩
  have hb35 := hb4.trans (hb5.mono hb4.size)
  obtain ⟨q1, q2⟩ := HRR.out w5 hb35
  obtain ⟨o6, c6, w6, o7, c7, w7, run6, run7, hr7, hb7⟩ := rows_both w5 q1 q2 (by omega) (by omega)
  have H4 := Lib.hid (H3.out _ w7 hr7)
  have HB7 := Lib.hid (hb35.trans (hb7.mono hb35.size))
  clear H1 H2 H3 q1 q2 hr7 hb4 hb5 hb35 hb7
  simp only
  go_wp2_with (first
    | (at_builtin; refine wpList_append_eq rfl _ _ 23 rfl _ _ _ w6 rfl rfl run6 ?_)
    | (at_builtin; refine wpList_append_eq rfl _ _ 23 rfl _ _ _ w7 rfl rfl run7 ?_))
  refine H4.out.mono ?_
  rintro e w8 ⟨o8, c8, rfl, hr8, hb8⟩
  have HB8 := Lib.hid (HB7.out.trans (hb8.mono HB7.out.size))
  clear H4 HB7 hb8 run6 run7
  simp only at hr8 ⊢
  have hcases : (e1 = 0 ∧ e2 = 0) ∨ ((e1 ≠ 0 ∨ (e1 = 0 ∧ e2 ≠ 0)) ∧ (e3 = 0 ∨ (e3 ≠ 0 ∧ d1 = []))) := by
    by_cases h1 : e1 = 0
    · by_cases h2 : e2 = 0
      · exact .inl ⟨h1, h2⟩
      · refine .inr ⟨.inr ⟨h1, h2⟩, ?_⟩
        by_cases h3 : e3 = 0
        · exact .inl h3
        · exact .inr ⟨h3, herr h3⟩
    · refine .inr ⟨.inl h1, ?_⟩
      by_cases h3 : e3 = 0
      · exact .inl h3
      · exact .inr ⟨h3, herr h3⟩
  clear herr
  rcases hcases with ⟨rfl, rfl⟩ | ⟨h1, h3⟩
  · obtain ⟨rfl, rfl, hsum⟩ := hrows rfl rfl
    have HNo := Lib.hid (hnums rfl)
    have HKi := Lib.hid (hkinds rfl)
    obtain ⟨n, hn⟩ : ∃ n, n = d1.length := ⟨_, rfl⟩
    obtain ⟨na, hna⟩ : ∃ n, n = a1.length := ⟨_, rfl⟩
    obtain ⟨nb, hnb⟩ : ∃ n, n = b1.length := ⟨_, rfl⟩
    rw [← hn] at hr8 hsum hld ⊢
    rw [← hna] at hsum hla ⊢
    rw [← hnb] at hsum hlb ⊢
    have hsum' : (na : Int) + (nb : Int) = (n : Int) := by omega
    have HX : Hid (∀ j, j < n → ∃ q b f, d1[j]? = some q ∧ o8 = some ⟨b, f, none⟩ ∧ n ≤ c8 ∧ ∀ W, Below w8.heap.size w8 W → W.cell? ⟨b, f + j * 10, none⟩ = some (.int .i64 q.kind) ∧ W.cell? ⟨b, f + j * 10 + 1, none⟩ = some (.int .i64 q.no)) := fun j hj => by
      have hg : d1[j]? = some (d1[j]'(by omega)) := List.getElem?_eq_getElem (by omega)
      obtain ⟨o', c', hv, hx⟩ := hr8
      cases hv
      obtain ⟨b, f, rv, g1, g2, g3, g4, _⟩ := hx j _ hg
      exact ⟨_, b, f, hg, g1, by omega, fun W hW => ⟨(hW.cell (p := ⟨b, f + j * 10, none⟩) g2).trans (g4 0 (by omega)), (hW.cell (p := ⟨b, f + j * 10 + 1, none⟩) g2).trans (g4 1 (by omega))⟩⟩
    obtain ⟨q1, q2⟩ := HRR.out w8 HB8.out
    obtain ⟨o9, c9, w9, oA, cA, wA, run9, runA, hrA, hbA⟩ := rows_both w8 q1 q2 (by omega) (by omega)
    obtain ⟨all, hall⟩ : ∃ a, a = l ++ k := ⟨_, rfl⟩
    obtain ⟨m, hm⟩ : ∃ m, m = l.length + k.length := ⟨_, rfl⟩
    have hma : m = all.length := by rw [hm, hall, List.length_append]
    have hm120 : m ≤ 120 := by omega
    rw [← hall] at hrA HNo
    rw [← hm] at hrA runA
    have HL : Hid (∀ j, j < m → ∃ x b f, all[j]? = some x ∧ oA = some ⟨b, f, none⟩ ∧ m ≤ cA ∧ ∀ W, Below wA.heap.size wA W → W.cell? ⟨b, f + j * 3, none⟩ = some (.int .i64 x.1) ∧ W.cell? ⟨b, f + j * 3 + 1, none⟩ = some (.bool x.2.1)) := fun j hj => by
      have hg : all[j]? = some (all[j]'(by omega)) := List.getElem?_eq_getElem (by omega)
      obtain ⟨o', c', hv, hx⟩ := hrA
      cases hv
      obtain ⟨b, f, g1, g2, g3, g4, g5, _⟩ := hx j _ hg
      exact ⟨_, b, f, hg, g1, by omega, fun W hW => ⟨(hW.cell (p := ⟨b, f + j * 3, none⟩) g2).trans g4, (hW.cell (p := ⟨b, f + j * 3 + 1, none⟩) g2).trans g5⟩⟩
    have HBA := Lib.hid (HB3.out.trans ((HB8.out.trans (hbA.mono HB8.out.size)).mono HB3.out.size))
    have HBA8 := Lib.hid hbA
    have hnP : n = (plainL all).length := by
      have := congrArg List.length HNo.out
      rw [List.length_map, List.length_map] at this; omega
    have HnP := Lib.hid hnP
    have Hma := Lib.hid hma
    clear hr8 hrA hbA q1 q2 hrows hnums hkinds HRR HB8 HB3 hall hm hn hna hnb hnP hma hsum
    go_wp2_with (first
      | (at_builtin; refine wpList_append_eq rfl _ _ 23 rfl _ _ _ w9 rfl rfl run9 ?_)
      | (at_builtin; refine wpList_append_eq rfl _ _ 23 rfl _ _ _ wA rfl rfl runA ?_))
    go_loopw [19, 21] (fun a i wr => ∃ (p j : Nat), p ≤ m ∧ j ≤ n ∧ a = .int .i64 p ∧ i = .int .i64 j ∧ Hid (plainL (all.drop p) = (plainL all).drop j) ∧ Below wA.heap.size wA wr) (fun _ i _ => n - (intOf i).toNat)
    case atStart => exact ⟨0, 0, Nat.zero_le _, Nat.zero_le _, rfl, rfl, (by show _ = _; rfl), Below.refl _ _⟩
    case round =>
      obtain ⟨p, j, hp, hj, rfl, rfl, HP0, hb⟩ := hrel
      by_cases hjn : j < n
      · have HB := Lib.hid hb
        clear hb
        go_wp2
        go_loopw [19] (fun a wr2 => ∃ (p : Nat), p ≤ m ∧ a = .int .i64 p ∧ Hid (plainL (all.drop p) = (plainL all).drop j) ∧ Below wA.heap.size wA wr2) (fun a _ => m - (intOf a).toNat)
        case atStart => exact ⟨p, hp, rfl, HP0, HB.out⟩
        case round =>
          clear HB HP0 hp
          obtain ⟨p, hp, rfl, HP0, hb⟩ := hrel
          by_cases hpm : p < m
          · obtain ⟨x, b, f, hx, rfl, hcA, hc⟩ := HL.out p hpm
            obtain ⟨l0, l1⟩ := hc wr hb
            cases htab : x.2.1 with
            | true =>
              have HP1 : Hid (plainL (all.drop (p + 1)) = (plainL all).drop j) := by
                show _ = _
                rw [← plain_tab hx htab]; exact HP0.out
              have HB := Lib.hid hb
              rw [htab] at l1
              clear hx htab HP0 hc hb
              go_wp2
              go_roundw
              case rel => exact ⟨p + 1, hpm, by go_num, HP1, HB.out⟩
              case measure => simp [intOf]; omega
            | false =>
              have hP := HP0.out
              rw [plain_text hx htab] at hP
              have hxj : ((plainL all).drop j)[0]? = some x := by rw [← hP]; rfl
              rw [List.getElem?_drop, Nat.add_zero] at hxj
              have HP1 : Hid (plainL (all.drop (p + 1)) = (plainL all).drop (j + 1)) := by
                show _ = _
                have := congrArg List.tail hP
                simpa using this
              obtain ⟨q, b2, f2, hq, rfl, hc8, hcq⟩ := HX.out j hjn
              obtain ⟨k0, k1⟩ := hcq wr (HBA8.out.trans (hb.mono HBA8.out.size))
              have hno : q.no = x.1 := by
                have := congrArg (fun r : List Int => r[j]?) HNo.out
                simp only [List.getElem?_map, hq, hxj, Option.map_some, Option.some.injEq] at this
                exact this
              obtain ⟨hk1, hk6⟩ := HKi.out q (List.mem_of_getElem? hq)
              rw [hno] at k1
              rw [htab] at l1
              have t1 : ((p : Int) == (m : Int)) = false := by simp; omega
              have t2 : (x.1 != x.1) = false := by simp
              have t3 : decide (q.kind < 1) = false := decide_eq_false (by omega)
              have t4 : decide (6 < q.kind) = false := decide_eq_false (by omega)
              have hb9 := Lib.hid (fun m => hb.trans (drewN_below _ wr m))
              clear hx htab HP0 hc hb hP hxj hcq hno hq hk1 hk6
              go_wp2
              go_quiet (fail)
              go_wp2
              go_roundw
              case rel => exact ⟨p + 1, j + 1, hpm, hjn, by go_num, by go_num, HP1, hb9.out _⟩
              case measure => simp [intOf]; omega
          · exfalso
            have hP := congrArg List.length HP0.out
            rw [List.drop_eq_nil_of_le (by rw [← Hma.out]; omega)] at hP
            rw [List.length_drop, ← HnP.out] at hP
            simp [plainL] at hP; omega
      · have HB := Lib.hid hb
        clear hb
        go_wp2
        go_ret
        exact ⟨rfl, HBA.out.trans (HB.out.mono HBA.out.size)⟩
  · clear hrows hnums hkinds HRR
    have HBE := Lib.hid (HB3.out.trans (HB8.out.mono HB3.out.size))
    clear HB3 HB8
    have t1 : (e1 != 0) = true ∨ (e1 = 0 ∧ (e2 != 0) = true) := by
      rcases h1 with h1 | ⟨h1, h2⟩
      · exact .inl (by simp [h1])
      · exact .inr ⟨h1, by simp [h2]⟩
    clear h1
    rcases t1 with t1 | ⟨rfl, t1⟩ <;> rcases h3 with rfl | ⟨h3, rfl⟩
    · go_wp2
      go_ret
      exact ⟨rfl, HBE.out⟩
    · have t3 : (e3 == 0) = false := by simp [h3]
      go_wp2
      go_ret
      exact ⟨rfl, HBE.out⟩
    · go_wp2
      go_ret
      exact ⟨rfl, HBE.out⟩
    · have t3 : (e3 == 0) = false := by simp [h3]
      go_wp2
      go_ret
      exact ⟨rfl, HBE.out⟩
end Go.Proofs.YtldddecaeloohaaDoor
