/-
  CallSorts, the walk: it answers true for every text. No condition.
-/
import Derived.OwnWalkIn
import Derived.LoopIn
import Derived.LoopNIn
import Derived.Deep.QuietTactic
import Derived.BigQuiet
import Derived.Laws.Cover1
import Derived.WalkSpells
import Derived.Test.YtfdlcmjjnoapfaaGreatDoorNWk
namespace Go.Proofs.YtfdlcmjjnoapfaaGreatDoor
open Go.RowKit Go.Shelf
attribute [local go_sem] Oper.semAt_some

theorem bytesLess_lt : ∀ a b : BT, Op.bytesLess a b = decide (a < b)
  | [], [] => by simp [Op.bytesLess]
  | [], _ :: _ => by simp [Op.bytesLess]
  | _ :: _, [] => by simp [Op.bytesLess]
  | a :: r, b :: s => by
    rw [Op.bytesLess, bytesLess_lt r s, Bool.eq_iff_iff]
    simp [List.cons_lt_cons_iff]
theorem less_no {a b : BT} (h : b < a) : Op.bytesLess (txt a).toList (txt b).toList = false := by
  rw [bytesLess_lt, txt_toL, txt_toL]
  exact decide_eq_false fun h' => bt_irrefl a (bt_trans h' h)
theorem asc_get {l : List BT} (h : Asc l) {k : Nat} {x y : BT} (h0 : 0 < k) (hx : l[k - 1]? = some x) (hy : l[k]? = some y) : x < y := by
  obtain ⟨h1, rfl⟩ := List.getElem?_eq_some_iff.1 hx
  obtain ⟨h2, rfl⟩ := List.getElem?_eq_some_iff.1 hy
  exact List.pairwise_iff_getElem.1 h (k - 1) k h1 h2 (by omega)

set_option maxRecDepth 100000 in
set_option maxHeartbeats 4000000 in
theorem callSorts_walk (s0 : ByteArray) (hs0 : s0.size ≤ maxLen) (w : World) (hst : Std w) :
    Calls Tryz.prog 4 #[.string s0] w (LawPost w) := by
  unfold maxLen at hs0
  have HS := Lib.hid hst
  have HSh := Lib.hid (shown_any w hst)
  clear hst
  by_cases a1 : 1000 < s0.size
  · clear HS
    go_enter Tryz.func4, Tryz.ntmps4
    go_wp2_with fail
    refine HSh.out.mono ?_
    rintro e w1 ⟨rfl, hb1⟩
    go_wp2_with fail
    go_ret
    exact ⟨rfl, hb1⟩
  have z0 : s0.size ≤ 1000 := by omega
  have y0 : ¬ (1000 : Int) < (s0.size : Int) := by omega
  clear a1 hs0
  have hz : s0.data.toList.length ≤ 1000 := by rw [size_list]; exact z0
  have hwt := wt_words s0.data.toList
  have hjl : (joinT (sortT (wordsT s0.data.toList))).length ≤ 1000 := by
    have h1 := wt_join (sortT (wordsT s0.data.toList))
    have h2 := wt_sort (wordsT s0.data.toList)
    omega
  have hwj : wordsT (joinT (sortT (wordsT s0.data.toList))) = sortT (wordsT s0.data.toList) := words_join _ fun x hx => words_all _ x ((sort_mem _ x).1 hx)
  have H1 : Hid (∀ W, Std W → Calls Tryz.prog 18 #[.string ⟨#[115, 111, 114, 116]⟩, .slice (some ⟨W.heap.size, 0, none⟩) 1 1] (W.alloc (.cells #[.string s0] 9)) fun e w' => e = .returned (.string (txt (joinT (sortT (wordsT s0.data.toList))))) ∧ Below W.heap.size W w') := fun W hW => by
    have := of1_is ⟨#[115, 111, 114, 116]⟩ s0.data.toList _ (by omega) (congrArg Prod.fst (call_sort s0.data.toList (by omega))) W hW
    rw [txt_toList] at this
    exact this
  have H2 := Lib.hid (fun W => words_told s0 (by omega) W)
  have H3 := Lib.hid (fun W => words_toldT (joinT (sortT (wordsT s0.data.toList))) (by omega) W)
  have H4 := Lib.hid (fun W => of1_is ⟨#[115, 111, 114, 116]⟩ (joinT (sortT (wordsT s0.data.toList))) _ (by omega) (congrArg Prod.fst (call_sort (joinT (sortT (wordsT s0.data.toList))) (by omega))) W)
  rw [hwj] at H3 H4
  rw [sort_twice] at H4
  have HA := Lib.hid (sort_asc (wordsT s0.data.toList))
  have HM := Lib.hid (sort_mem (wordsT s0.data.toList))
  have hnz : (wordsT s0.data.toList).length ≤ 1001 := by have := words_few s0.data.toList; omega
  have hmz : (sortT (wordsT s0.data.toList)).length ≤ 1001 := by have := sort_len (wordsT s0.data.toList); omega
  clear hz hwt hjl hwj
  generalize joinT (sortT (wordsT s0.data.toList)) = J at H1 H3 H4
  generalize sortT (wordsT s0.data.toList) = ls at H3 HA HM hmz
  generalize wordsT s0.data.toList = ws at H2 HM hnz
  obtain ⟨n, hn⟩ : ∃ n, n = ws.length := ⟨_, rfl⟩
  obtain ⟨m, hm⟩ : ∃ m, m = ls.length := ⟨_, rfl⟩
  rw [← hn] at H2 hnz
  rw [← hm] at H3 hmz
  have HN := Lib.hid hn
  have HMm := Lib.hid hm
  clear hn hm
  go_enter Tryz.func4, Tryz.ntmps4
  go_wp2_with fail
  refine HSh.out.mono ?_
  rintro e w1 ⟨rfl, hb1⟩
  have HS1 := Lib.hid (HS.out.below hb1)
  go_wp2_with fail
  refine (H1.out w1 HS1.out).mono ?_
  rintro e w2 ⟨rfl, hb2⟩
  have HS2 := Lib.hid (HS1.out.below hb2)
  have hb12 : Below w.heap.size w w2 := hb1.trans (hb2.mono hb1.size)
  go_wp2_with fail
  refine (H2.out w2).mono ?_
  rintro e w3 ⟨o5, c5, rfl, hc5, hb3⟩
  have HS3 := Lib.hid (HS2.out.below hb3)
  have hb13 : Below w.heap.size w w3 := hb12.trans (hb3.mono hb12.size)
  go_wp2_with fail
  refine (H3.out w3).mono ?_
  rintro e w5 ⟨o6, c6, rfl, hc6, hb5⟩
  have HS5 := Lib.hid (HS3.out.below hb5)
  have HB15 := Lib.hid (hb13.trans (hb5.mono hb13.size))
  have HC5 : Hid (∀ wr, Below w5.heap.size w5 wr → ∀ k x, ws[k]? = some x → ∃ b f, o5 = some ⟨b, f, none⟩ ∧ n ≤ c5 ∧ wr.cell? ⟨b, f + k, none⟩ = some (.string (txt x))) := fun wr hb k x hx => by
    obtain ⟨b, f, h1, h2, h3, h4⟩ := (hc5.below hb5).below hb k x hx
    exact ⟨b, f, h1, by rw [HN.out]; exact h3, h4⟩
  have HC6 : Hid (∀ wr, Below w5.heap.size w5 wr → ∀ k x, ls[k]? = some x → ∃ b f, o6 = some ⟨b, f, none⟩ ∧ m ≤ c6 ∧ wr.cell? ⟨b, f + k, none⟩ = some (.string (txt x))) := fun wr hb k x hx => by
    obtain ⟨b, f, h1, h2, h3, h4⟩ := hc6.below hb k x hx
    exact ⟨b, f, h1, by rw [HMm.out]; exact h3, h4⟩
  have HSt : Hid (∀ wr, Below w5.heap.size w5 wr → Std wr) := fun wr hb => HS5.out.below hb
  clear hc5 hc6 hb1 hb2 hb3 hb5 hb12 hb13 HS HS1 HS2 HS3 HS5 H1 H2 H3 HSh z0
  have hb05 : Below w5.heap.size w5 w5 := Below.refl _ _
  go_wp2_with fail
  go_loopw [7] (fun iv wr => ∃ k : Nat, k ≤ m ∧ iv = .int .i64 k ∧ Below w5.heap.size w5 wr) (fun iv _ => m - (intOf iv).toNat)
  case atStart => exact ⟨0, Nat.zero_le _, rfl, hb05⟩
  case round =>
    clear hb05
    obtain ⟨k, hk, rfl, hb⟩ := hrel
    by_cases hkm : k < m
    · obtain ⟨y, hyk⟩ : ∃ y, ls[k]? = some y := ⟨ls[k]'(by rw [← HMm.out]; exact hkm), List.getElem?_eq_getElem _⟩
      have HY := Lib.hid hyk
      have hki' : (k : Int) < (m : Int) := by omega
      have h0k' : (0 : Int) ≤ (k : Int) := by omega
      have HB9 : Hid (∀ nq, Below w5.heap.size w5 (wr.drewN nq)) := fun nq => below_drewN hb nq
      by_cases hk0 : k = 0
      · have d0 : decide ((0 : Int) < (k : Int)) = false := by simp; omega
        have d1 : ¬ 0 < k := by omega
        have d2 : decide (0 < k) = false := by simp; omega
        clear hb hyk hk0
        go_wp2_with fail
        go_quiet (fail)
        go_wp2_with fail
        go_loopw [8, 9] (fun qv jv wr => ∃ (j : Nat) (q : Bool), j ≤ n ∧ jv = .int .i64 j ∧ qv = .bool q ∧ Below w5.heap.size w5 wr ∧ (q = false → ∀ i, i < j → ws[i]? ≠ some y)) (fun _ jv _ => n - (intOf jv).toNat)
        case atStart => exact ⟨0, false, Nat.zero_le _, rfl, rfl, HB9.out _, fun _ i h => absurd h (by omega)⟩
        case round =>
          clear HB9
          obtain ⟨j, q, hj, rfl, rfl, hb, hq⟩ := hrel
          have HQ := Lib.hid hq
          clear hq
          by_cases hjn : j < n
          · obtain ⟨x, hxj⟩ : ∃ x, ws[j]? = some x := ⟨ws[j]'(by rw [← HN.out]; exact hjn), List.getElem?_eq_getElem _⟩
            obtain ⟨b5, f5, r5, hnc, x0⟩ := HC5.out wr hb j x hxj
            obtain ⟨b6, f6, r6, hmc, x1⟩ := HC6.out wr hb k y HY.out
            cases r5
            cases r6
            have hjc : j < c5 := by omega
            have hkc : k < c6 := by omega
            have h0j : (0 : Int) ≤ (j : Int) := by omega
            have h0k : (0 : Int) ≤ (k : Int) := by omega
            have hji : (j : Int) < (n : Int) := by omega
            have hki : (k : Int) < (m : Int) := by omega
            have HB8 : Hid (∀ nq, Below w5.heap.size w5 (wr.drewN nq)) := fun nq => below_drewN hb nq
            have HXJ := Lib.hid hxj
            clear hb hxj hnc hmc
            cases q with
            | true =>
              go_wp2_with fail
              go_quiet (fail)
              go_wp2_with fail
              go_roundw
              case rel => exact ⟨j + 1, true, hjn, by go_num, rfl, HB8.out _, fun h => by cases h⟩
              case measure => simp [intOf]; omega
            | false =>
              by_cases hxy : x = y
              · have e1 := tq_t hxy
                clear hxy
                go_wp2_with fail
                go_quiet (fail)
                go_wp2_with fail
                go_roundw
                case rel => exact ⟨j + 1, true, hjn, by go_num, by trivial, HB8.out _, fun h => by cases h⟩
                case measure => simp [intOf]; omega
              · have e1 := tq_f hxy
                have HXY := Lib.hid hxy
                clear hxy
                go_wp2_with fail
                go_quiet (fail)
                go_wp2_with fail
                go_roundw
                case rel => exact ⟨j + 1, false, hjn, by go_num, by trivial, HB8.out _, fun _ i hi => by
                  rcases Nat.lt_succ_iff_lt_or_eq.1 hi with h | rfl
                  · exact HQ.out (by trivial) i h
                  · rw [HXJ.out]; exact fun e => HXY.out (Option.some.inj e)⟩
                case measure => simp [intOf]; omega
          · have hjn' : j = n := by omega
            subst j
            have hq1 : q = true := by
              cases q with
              | true => rfl
              | false =>
                exfalso
                obtain ⟨i, hi⟩ := List.mem_iff_getElem?.1 ((HM.out y).1 (List.mem_of_getElem? HY.out))
                exact HQ.out (by trivial) i (by rw [HN.out]; exact (List.getElem?_eq_some_iff.1 hi).1) hi
            subst hq1
            clear HQ
            go_wp2_with fail
            go_roundw
            case rel => exact ⟨k + 1, hkm, by go_num, hb⟩
            case measure => simp [intOf]; omega
      obtain ⟨z, hzk⟩ : ∃ z, ls[k - 1]? = some z := ⟨ls[k - 1]'(by rw [← HMm.out]; omega), List.getElem?_eq_getElem _⟩
      have hzy := asc_get HA.out (by omega) hzk hyk
      have e1 := less_no hzy
      have e2 : ((txt y).toList == (txt z).toList) = false := tq_f (fun h => bt_irrefl z (h ▸ hzy))
      obtain ⟨b6, f6, r6, hmc, x1⟩ := HC6.out wr hb k y hyk
      subst r6
      obtain ⟨b7, f7, r7, _, x2⟩ := HC6.out wr hb (k - 1) z hzk
      cases r7
      have hkc' : k < c6 := by omega
      have hd : (0 : Int) < (k : Int) := by omega
      have hd2 : 0 < k := by omega
      have hd3 : decide (0 < k) = true := decide_eq_true hd2
      have hd4 : decide ((0 : Int) < (k : Int)) = true := decide_eq_true hd
      obtain ⟨k1, hk1⟩ : ∃ k1, k1 = k - 1 := ⟨_, rfl⟩
      have hw1 : IntKind.i64.wrap ((k : Int) - 1) = (k1 : Int) := by rw [IntKind.wrap_i64]; omega
      have hm1 : (0 : Int) ≤ (k1 : Int) := by omega
      have hm2 : (k1 : Int) < (m : Int) := by omega
      have hm3 : k1 < c6 := by omega
      have hm4 : k1 < m := by omega
      rw [← hk1] at x2
      clear hb hyk hzk hzy hmc hk0 hk1
      go_wp2_with fail
      go_quiet (fail)
      clear e1 e2 x1 x2 hm1 hm2 hw1 hm3 hm4
      go_wp2_with fail
      go_loopw [8, 9] (fun qv jv wr => ∃ (j : Nat) (q : Bool), j ≤ n ∧ jv = .int .i64 j ∧ qv = .bool q ∧ Below w5.heap.size w5 wr ∧ (q = false → ∀ i, i < j → ws[i]? ≠ some y)) (fun _ jv _ => n - (intOf jv).toNat)
      case atStart => exact ⟨0, false, Nat.zero_le _, rfl, rfl, HB9.out _, fun _ i h => absurd h (by omega)⟩
      case round =>
        clear HB9
        obtain ⟨j, q, hj, rfl, rfl, hb, hq⟩ := hrel
        have HQ := Lib.hid hq
        clear hq
        by_cases hjn : j < n
        · obtain ⟨x, hxj⟩ : ∃ x, ws[j]? = some x := ⟨ws[j]'(by rw [← HN.out]; exact hjn), List.getElem?_eq_getElem _⟩
          obtain ⟨b5, f5, r5, hnc, x0⟩ := HC5.out wr hb j x hxj
          obtain ⟨b6, f6, r6, hmc, x1⟩ := HC6.out wr hb k y HY.out
          cases r5
          cases r6
          have hjc : j < c5 := by omega
          have hkc : k < c6 := by omega
          have h0j : (0 : Int) ≤ (j : Int) := by omega
          have h0k : (0 : Int) ≤ (k : Int) := by omega
          have hji : (j : Int) < (n : Int) := by omega
          have hki : (k : Int) < (m : Int) := by omega
          have HB8 : Hid (∀ nq, Below w5.heap.size w5 (wr.drewN nq)) := fun nq => below_drewN hb nq
          have HXJ := Lib.hid hxj
          clear hb hxj hnc hmc
          cases q with
          | true =>
            go_wp2_with fail
            go_quiet (fail)
            go_wp2_with fail
            go_roundw
            case rel => exact ⟨j + 1, true, hjn, by go_num, rfl, HB8.out _, fun h => by cases h⟩
            case measure => simp [intOf]; omega
          | false =>
            by_cases hxy : x = y
            · have e1 := tq_t hxy
              clear hxy
              go_wp2_with fail
              go_quiet (fail)
              go_wp2_with fail
              go_roundw
              case rel => exact ⟨j + 1, true, hjn, by go_num, by trivial, HB8.out _, fun h => by cases h⟩
              case measure => simp [intOf]; omega
            · have e1 := tq_f hxy
              have HXY := Lib.hid hxy
              clear hxy
              go_wp2_with fail
              go_quiet (fail)
              go_wp2_with fail
              go_roundw
              case rel => exact ⟨j + 1, false, hjn, by go_num, by trivial, HB8.out _, fun _ i hi => by
                rcases Nat.lt_succ_iff_lt_or_eq.1 hi with h | rfl
                · exact HQ.out (by trivial) i h
                · rw [HXJ.out]; exact fun e => HXY.out (Option.some.inj e)⟩
              case measure => simp [intOf]; omega
        · have hjn' : j = n := by omega
          subst j
          have hq1 : q = true := by
            cases q with
            | true => rfl
            | false =>
              exfalso
              obtain ⟨i, hi⟩ := List.mem_iff_getElem?.1 ((HM.out y).1 (List.mem_of_getElem? HY.out))
              exact HQ.out (by trivial) i (by rw [HN.out]; exact (List.getElem?_eq_some_iff.1 hi).1) hi
          subst hq1
          clear HQ
          go_wp2_with fail
          go_roundw
          case rel => exact ⟨k + 1, hkm, by go_num, hb⟩
          case measure => simp [intOf]; omega
    · have hkm' : k = m := by omega
      subst k
      have HBA := Lib.hid hb
      have hb06 := hb
      clear hb
      go_wp2_with fail
      go_loopw [10] (fun iv wr => ∃ k2 : Nat, k2 ≤ n ∧ iv = .int .i64 k2 ∧ Below w5.heap.size w5 wr) (fun iv _ => n - (intOf iv).toNat)
      case atStart => exact ⟨0, Nat.zero_le _, rfl, hb06⟩
      case round =>
        clear hb06 HBA
        obtain ⟨k2, hk2, rfl, hb⟩ := hrel
        by_cases hkn : k2 < n
        · obtain ⟨y, hyk⟩ : ∃ y, ws[k2]? = some y := ⟨ws[k2]'(by rw [← HN.out]; exact hkn), List.getElem?_eq_getElem _⟩
          have HY := Lib.hid hyk
          have HB9 : Hid (∀ nq, Below w5.heap.size w5 (wr.drewN nq)) := fun nq => below_drewN hb nq
          have HB0 : Hid (Below w5.heap.size w5 wr) := hb
          clear hb hyk
          go_wp2_with fail
          go_loopw [11, 12] (fun qv jv wr => ∃ (j : Nat) (q : Bool), j ≤ m ∧ jv = .int .i64 j ∧ qv = .bool q ∧ Below w5.heap.size w5 wr ∧ (q = false → ∀ i, i < j → ls[i]? ≠ some y)) (fun _ jv _ => m - (intOf jv).toNat)
          case atStart => exact ⟨0, false, Nat.zero_le _, rfl, rfl, HB0.out, fun _ i h => absurd h (by omega)⟩
          case round =>
            clear HB9 HB0
            obtain ⟨j, q, hj, rfl, rfl, hb, hq⟩ := hrel
            have HQ := Lib.hid hq
            clear hq
            by_cases hjn : j < m
            · obtain ⟨x, hxj⟩ : ∃ x, ls[j]? = some x := ⟨ls[j]'(by rw [← HMm.out]; exact hjn), List.getElem?_eq_getElem _⟩
              obtain ⟨b5, f5, r5, hnc, x0⟩ := HC6.out wr hb j x hxj
              obtain ⟨b6, f6, r6, hmc, x1⟩ := HC5.out wr hb k2 y HY.out
              cases r5
              cases r6
              have hjc : j < c6 := by omega
              have hkc : k2 < c5 := by omega
              have h0j : (0 : Int) ≤ (j : Int) := by omega
              have h0k : (0 : Int) ≤ (k2 : Int) := by omega
              have hji : (j : Int) < (m : Int) := by omega
              have hki : (k2 : Int) < (n : Int) := by omega
              have HB8 : Hid (∀ nq, Below w5.heap.size w5 (wr.drewN nq)) := fun nq => below_drewN hb nq
              have HXJ := Lib.hid hxj
              clear hb hxj hnc hmc
              cases q with
              | true =>
                go_wp2_with fail
                go_quiet (fail)
                go_wp2_with fail
                go_roundw
                case rel => exact ⟨j + 1, true, hjn, by go_num, rfl, HB8.out _, fun h => by cases h⟩
                case measure => simp [intOf]; omega
              | false =>
                by_cases hxy : x = y
                · have e1 := tq_t hxy
                  clear hxy
                  go_wp2_with fail
                  go_quiet (fail)
                  go_wp2_with fail
                  go_roundw
                  case rel => exact ⟨j + 1, true, hjn, by go_num, by trivial, HB8.out _, fun h => by cases h⟩
                  case measure => simp [intOf]; omega
                · have e1 := tq_f hxy
                  have HXY := Lib.hid hxy
                  clear hxy
                  go_wp2_with fail
                  go_quiet (fail)
                  go_wp2_with fail
                  go_roundw
                  case rel => exact ⟨j + 1, false, hjn, by go_num, by trivial, HB8.out _, fun _ i hi => by
                    rcases Nat.lt_succ_iff_lt_or_eq.1 hi with h | rfl
                    · exact HQ.out (by trivial) i h
                    · rw [HXJ.out]; exact fun e => HXY.out (Option.some.inj e)⟩
                  case measure => simp [intOf]; omega
            · have hjn' : j = m := by omega
              subst j
              have hq1 : q = true := by
                cases q with
                | true => rfl
                | false =>
                  exfalso
                  obtain ⟨i, hi⟩ := List.mem_iff_getElem?.1 ((HM.out y).2 (List.mem_of_getElem? HY.out))
                  exact HQ.out (by trivial) i (by rw [HMm.out]; exact (List.getElem?_eq_some_iff.1 hi).1) hi
              subst hq1
              clear HQ
              go_wp2_with fail
              go_roundw
              case rel => exact ⟨k2 + 1, hkn, by go_num, hb⟩
              case measure => simp [intOf]; omega
        · have hkn' : k2 = n := by omega
          subst k2
          have HOF := Lib.hid (H4.out wr (HSt.out wr hb))
          have HBR := Lib.hid hb
          have e1 := tq_t (rfl : J = J)
          clear hb
          go_wp2_with fail
          refine HOF.out.mono ?_
          rintro e w9 ⟨rfl, hb9⟩
          go_wp2_with fail
          go_ret
          exact ⟨rfl, HB15.out.trans ((HBR.out.trans (hb9.mono HBR.out.size)).mono HB15.out.size)⟩
end Go.Proofs.YtfdlcmjjnoapfaaGreatDoor
