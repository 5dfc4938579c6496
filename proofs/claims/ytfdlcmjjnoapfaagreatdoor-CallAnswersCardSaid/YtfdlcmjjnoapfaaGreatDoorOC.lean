/-
  What the document's own some, sorted and join of chapter 10 answer. For texts of at most ten thousand bytes. No condition.
-/
import Derived.Deep.QuietTactic
import Derived.BigQuiet
import Derived.WalkSpells
import Derived.Test.YtfdlcmjjnoapfaaGreatDoorLawSortsCW
import Derived.Test.YtfdlcmjjnoapfaaGreatDoorOB
namespace Go.Proofs.YtfdlcmjjnoapfaaGreatDoor
open Go.RowKit Go.Shelf
attribute [local go_sem] Oper.semAt_some

set_option maxRecDepth 100000 in
set_option maxHeartbeats 4000000 in
theorem some10_any (a b : Int) (t : ByteArray) (ht : t.size ≤ 10000) (w : World) : Calls Tryz.prog 68 #[.int .i64 a, .int .i64 b, .string t] w (RowPost (someI a b 0 (wordsT t.data.toList)) w) := by
  have HW := Lib.hid (rwords_told t (by omega) w)
  have hwl := words_few t.data.toList
  rw [size_list] at hwl
  generalize wordsT t.data.toList = ws at HW hwl ⊢
  obtain ⟨n, hn⟩ : ∃ n, n = ws.length := ⟨_, rfl⟩
  rw [← hn] at HW hwl
  have HN := Lib.hid hn
  clear hn
  go_enter Tryz.func68, Tryz.ntmps68
  go_wp2_with fail
  refine HW.out.mono ?_
  rintro e w1 ⟨o, c, rfl, hc, hb1⟩
  have HC := cells_later hc HN.out
  have HB := Lib.hid hb1
  have h0 : Hid (RowS w1 w1 (.slice none 0 0) []) := RowS.start (Below.refl _ _)
  clear hc hb1
  go_wp2_with fail
  go_loopw [8, 9] (fun ov iv wr => ∃ (k : Nat) (acc : List BT), k ≤ n ∧ iv = .int .i64 k ∧ acc ++ someI a b k (ws.drop k) = someI a b 0 ws ∧ acc.length ≤ k ∧ RowS w1 wr ov acc) (fun _ iv _ => n - (intOf iv).toNat)
  case atStart => exact ⟨0, [], Nat.zero_le _, rfl, rfl, Nat.le_refl _, h0.out⟩
  case round =>
    obtain ⟨k, acc, hk, rfl, hacc, hal, hR⟩ := hrel
    obtain ⟨oo, oc, rfl, hR⟩ := hR.slice
    have HA := Lib.hid hacc
    clear hacc
    by_cases hkn : k < n
    · obtain ⟨x, hxk⟩ : ∃ x, ws[k]? = some x := ⟨ws[k]'(by rw [← HN.out]; exact hkn), List.getElem?_eq_getElem _⟩
      obtain ⟨b0, f0, rfl, hnc, hcell⟩ := HC.out wr hR.2 k x hxk
      have hnx := someI_next (a := a) (b := b) hxk
      have hki : (k : Int) < (n : Int) := by omega
      have hkc : k < c := by omega
      by_cases h12 : a ≤ (k : Int) + 1 ∧ (k : Int) + 1 ≤ b
      · rw [if_pos h12] at hnx
        have HA2 : Hid ((acc ++ [x]) ++ someI a b (k + 1) (ws.drop (k + 1)) = someI a b 0 ws) := by
          show _ = _
          rw [← HA.out, hnx, List.append_assoc]; rfl
        have h1 := h12.1
        have h2 := h12.2
        have d1 : decide (a ≤ (k : Int) + 1) = true := decide_eq_true h1
        have d2 : decide ((k : Int) + 1 ≤ b) = true := decide_eq_true h2
        obtain ⟨po, pc, w3, hrun, hR3⟩ := hR.push x (by omega) 22
        have HR3 := Lib.hid hR3
        clear hR3 hnx h12 hxk HA
        go_wp2_with (at_builtin; refine wpList_append_eq rfl _ _ 22 rfl _ _ _ w3 rfl rfl hrun ?_)
        go_roundw
        case rel => exact ⟨k + 1, acc ++ [x], hkn, by go_num, HA2.out, by simp; omega, HR3.out⟩
        case measure => simp [intOf]; omega
      · rw [if_neg h12] at hnx
        have HA2 : Hid (acc ++ someI a b (k + 1) (ws.drop (k + 1)) = someI a b 0 ws) := by
          show _ = _
          rw [← HA.out, hnx]
        have HR := Lib.hid hR
        by_cases h1 : a ≤ (k : Int) + 1
        · have h2 : ¬ (k : Int) + 1 ≤ b := fun h => h12 ⟨h1, h⟩
          have d1 : decide (a ≤ (k : Int) + 1) = true := decide_eq_true h1
          have d2 : decide ((k : Int) + 1 ≤ b) = false := decide_eq_false h2
          clear hR hnx h12 hxk HA
          go_wp2_with fail
          go_roundw
          case rel => exact ⟨k + 1, acc, hkn, by go_num, HA2.out, by omega, HR.out⟩
          case measure => simp [intOf]; omega
        · have d1 : decide (a ≤ (k : Int) + 1) = false := decide_eq_false h1
          clear hR hnx h12 hxk HA
          go_wp2_with fail
          go_roundw
          case rel => exact ⟨k + 1, acc, hkn, by go_num, HA2.out, by omega, HR.out⟩
          case measure => simp [intOf]; omega
    · have HE : Hid (RowPost (someI a b 0 ws) w (.returned (.slice oo acc.length oc)) wr) := by
        have e : acc = someI a b 0 ws := by
          rw [← HA.out, List.drop_eq_nil_of_le (by rw [← HN.out]; omega)]
          simp [someI]
        rw [← e]
        exact hR.post HB.out
      clear HA hR
      go_wp2_with fail
      go_ret
      exact HE.out

theorem less_yes {a b : BT} (h : a < b) : Op.bytesLess (txt a).toList (txt b).toList = true := by
  rw [bytesLess_lt, txt_toL, txt_toL]
  exact decide_eq_true h
theorem less_not {a b : BT} (h : ¬ a < b) : Op.bytesLess (txt a).toList (txt b).toList = false := by
  rw [bytesLess_lt, txt_toL, txt_toL]
  exact decide_eq_false h

set_option maxRecDepth 100000 in
set_option maxHeartbeats 8000000 in
theorem sorted10_any (o : Option Addr) (c n : Nat) (ws : List BT) (hn : n = ws.length) (hnz : n ≤ 100000) (w : World) (hc : CellsW w o c ws) : Calls Tryz.prog 66 #[.slice o n c] w (RowPost (sortT ws) w) := by
  have HN := Lib.hid hn
  have HC := cells_later hc hn
  have h0 : Hid (RowS w w (.slice none 0 0) []) := RowS.start (Below.refl _ _)
  clear hc hn
  go_enter Tryz.func66, Tryz.ntmps66
  go_wp2_with fail
  go_loopw [3, 4, 5, 6, 7] (fun ov iv _ _ _ wr => ∃ (i : Nat), i ≤ n ∧ iv = .int .i64 i ∧ RowS w wr ov (sortT (ws.take i))) (fun _ iv _ _ _ _ => n - (intOf iv).toNat)
  case atStart => exact ⟨0, Nat.zero_le _, rfl, h0.out⟩
  case round =>
    obtain ⟨i, hi, rfl, hR⟩ := hrel
    obtain ⟨oo, oc, rfl, hR⟩ := hR.slice
    by_cases hin : i < n
    · obtain ⟨x, hxi⟩ : ∃ x, ws[i]? = some x := ⟨ws[i]'(by rw [← HN.out]; exact hin), List.getElem?_eq_getElem _⟩
      have HS := Lib.hid (sort_next hxi)
      have hii : (i : Int) < (n : Int) := by omega
      have hLl := sort_len (ws.take i)
      rw [List.length_take] at hLl
      generalize sortT (ws.take i) = L at hR HS hLl ⊢
      obtain ⟨m, hm⟩ : ∃ m, m = L.length := ⟨_, rfl⟩
      have HM := Lib.hid hm
      rw [← hm] at hLl hR ⊢
      have hmz : m ≤ 100000 := by omega
      have hb0 := hR.2
      obtain ⟨o2, c2, hv2, hL2⟩ := hR.cells
      have e2 : o2 = oo ∧ c2 = oc := by cases hv2; exact ⟨rfl, rfl⟩
      obtain ⟨rfl, rfl⟩ := e2
      have HL := cells_later hL2 HM.out
      obtain ⟨wo, hwo⟩ : ∃ wo, wo = wr := ⟨_, rfl⟩
      subst hwo
      have HW : Hid (∀ wr, Below wo.heap.size wo wr → ∃ b f, o = some ⟨b, f, none⟩ ∧ n ≤ c ∧ wr.cell? ⟨b, f + i, none⟩ = some (.string (txt x))) := fun wr hb => HC.out wr (hb0.trans (hb.mono hb0.size)) i x hxi
      have HB0 := Lib.hid hb0
      have h1 : Hid (RowS wo wo (.slice none 0 0) []) := RowS.start (Below.refl _ _)
      have hI0 := Lib.hid (ins_start x L)
      clear hv2 hL2 hm hxi hb0 hR hLl HC h0
      go_wp2_with fail
      go_loopw [5, 6, 7] (fun nv dv kv wr => ∃ (k : Nat) (d : Bool) (Z : List BT), k ≤ m ∧ kv = .int .i64 k ∧ dv = .bool d ∧ InsAt x L k d Z ∧ Z.length ≤ 2 * k ∧ RowS wo wr nv Z) (fun _ _ kv _ => m - (intOf kv).toNat)
      case atStart => exact ⟨0, false, [], Nat.zero_le _, rfl, rfl, hI0.out, Nat.le_refl _, h1.out⟩
      case round =>
        clear h1 hI0
        obtain ⟨k, d, Z, hk, rfl, rfl, hI, hZl, hR⟩ := hrel
        obtain ⟨zo, zc, rfl, hR⟩ := hR.slice
        have HI := Lib.hid hI
        clear hI
        by_cases hkm : k < m
        · obtain ⟨y, hyk⟩ : ∃ y, L[k]? = some y := ⟨L[k]'(by rw [← HM.out]; exact hkm), List.getElem?_eq_getElem _⟩
          have HY := Lib.hid hyk
          have HF : Hid (∀ W, Below wr.heap.size wr W → (∃ b f, o = some ⟨b, f, none⟩ ∧ n ≤ c ∧ W.cell? ⟨b, f + i, none⟩ = some (.string (txt x))) ∧ (∃ b f, o2 = some ⟨b, f, none⟩ ∧ m ≤ c2 ∧ W.cell? ⟨b, f + k, none⟩ = some (.string (txt y))) ∧ RowS wo W (.slice zo Z.length zc) Z) := fun W hb =>
            ⟨HW.out W (hR.2.trans (hb.mono hR.2.size)), HL.out W (hR.2.trans (hb.mono hR.2.size)) k y hyk, hR.below hb⟩
          obtain ⟨⟨bw, fw, rfl, hnc, x0⟩, ⟨bl, fl, rfl, hmc, x1⟩, -⟩ := HF.out wr (Below.refl _ _)
          have hic : i < c := by omega
          have hkc : k < c2 := by omega
          have h0i : (0 : Int) ≤ (i : Int) := by omega
          have h0k : (0 : Int) ≤ (k : Int) := by omega
          have hki : (k : Int) < (m : Int) := by omega
          have HF2 : Hid (∀ W, Below wr.heap.size wr W → W.cell? ⟨bw, fw + i, none⟩ = some (.string (txt x)) ∧ W.cell? ⟨bl, fl + k, none⟩ = some (.string (txt y)) ∧ RowS wo W (.slice zo Z.length zc) Z) := fun W hb => by
            obtain ⟨⟨_, _, e1, _, q1⟩, ⟨_, _, e2, _, q2⟩, q3⟩ := HF.out W hb
            cases e1; cases e2
            exact ⟨q1, q2, q3⟩
          have HL2 : Hid (∀ W, Below wo.heap.size wo W → W.cell? ⟨bl, fl + k, none⟩ = some (.string (txt y))) := fun W hb => by
            obtain ⟨_, _, e1, _, q1⟩ := HL.out W hb k y hyk
            cases e1
            exact q1
          clear hyk HF hnc hmc hR
          by_cases hyx : y = x
          · have e1 : ((txt y).toList == (txt x).toList) = true := tq_t hyx
            subst hyx
            have HIN := Lib.hid (ins_same HI.out HY.out)
            clear HI
            go_wp2_with fail
            go_quiet (fail)
            have hb5 : Below wr.heap.size wr (wr.drewN nq) := below_drewN (Below.refl _ wr) nq
            clear x0 x1
            generalize wr.drewN nq = w5 at hb5 ⊢
            obtain ⟨x0, x1, -⟩ := HF2.out _ hb5
            go_wp2_with fail
            go_quiet (fail)
            have hb6 : Below wr.heap.size wr (w5.drewN nq) := below_drewN hb5 nq
            clear x0 x1 hb5
            generalize w5.drewN nq = w6 at hb6 ⊢
            obtain ⟨x0, x1, hR6⟩ := HF2.out _ hb6
            obtain ⟨o7, c7, w7, hrun7, hR7⟩ := hR6.push y (by omega) 22
            have HRN := Lib.hid hR7
            clear hR6 hR7 hb6
            go_wp2_with (at_builtin; refine wpList_append_eq rfl _ _ 22 rfl _ _ _ w7 rfl rfl hrun7 ?_)
            go_roundw
            case rel => exact ⟨k + 1, true, Z ++ [y], hkm, by go_num, by trivial, HIN.out, by simp only [List.length_append, List.length_cons, List.length_nil]; omega, by first | exact HRN.out | simpa using HRN.out⟩
            case measure => simp [intOf]; omega
          · have e1 : ((txt y).toList == (txt x).toList) = false := tq_f hyx
            have HYX := Lib.hid hyx
            clear hyx
            cases d with
            | true =>
              have HIN := Lib.hid (ins_rest HI.out HY.out)
              clear HI
              go_wp2_with fail
              go_quiet (fail)
              have hb5 : Below wr.heap.size wr (wr.drewN nq) := below_drewN (Below.refl _ wr) nq
              clear x0 x1
              generalize wr.drewN nq = w5 at hb5 ⊢
              obtain ⟨x0, x1, -⟩ := HF2.out _ hb5
              go_wp2_with fail
              go_quiet (fail)
              have hb6 : Below wr.heap.size wr (w5.drewN nq) := below_drewN hb5 nq
              clear x0 x1 hb5
              generalize w5.drewN nq = w6 at hb6 ⊢
              obtain ⟨x0, x1, hR6⟩ := HF2.out _ hb6
              obtain ⟨o7, c7, w7, hrun7, hR7⟩ := hR6.push y (by omega) 22
              have HRN := Lib.hid hR7
              clear hR6 hR7 hb6
              go_wp2_with (at_builtin; refine wpList_append_eq rfl _ _ 22 rfl _ _ _ w7 rfl rfl hrun7 ?_)
              go_roundw
              case rel => exact ⟨k + 1, true, Z ++ [y], hkm, by go_num, by trivial, HIN.out, by simp only [List.length_append, List.length_cons, List.length_nil]; omega, by first | exact HRN.out | simpa using HRN.out⟩
              case measure => simp [intOf]; omega
            | false =>
              by_cases hlt : x < y
              · have e3 := less_yes hlt
                have HIN := Lib.hid (ins_less HI.out HY.out HYX.out hlt)
                clear HI
                go_wp2_with fail
                go_quiet (fail)
                have hb5 : Below wr.heap.size wr (wr.drewN nq) := below_drewN (Below.refl _ wr) nq
                clear x0 x1
                generalize wr.drewN nq = w5 at hb5 ⊢
                obtain ⟨x0, x1, -⟩ := HF2.out _ hb5
                go_wp2_with fail
                go_quiet (fail)
                have hb6 : Below wr.heap.size wr (w5.drewN nq) := below_drewN hb5 nq
                clear x0 x1 hb5
                generalize w5.drewN nq = w6 at hb6 ⊢
                obtain ⟨x0, x1, hR6⟩ := HF2.out _ hb6
                obtain ⟨o7, c7, w7, hrun7, hR7⟩ := hR6.push x (by omega) 22
                obtain ⟨o8, c8, w8, hrun8, hR8⟩ := hR7.push y (by simp only [List.length_append, List.length_cons, List.length_nil]; omega) 22
                have x3 := HL2.out w7 hR7.2
                have HRN := Lib.hid hR8
                clear hR6 hR7 hR8 hb6
                go_wp2_with (first | (at_builtin; refine wpList_append_eq rfl _ _ 22 rfl _ _ _ w7 rfl rfl hrun7 ?_) | (at_builtin; refine wpList_append_eq rfl _ _ 22 rfl _ _ _ w8 rfl rfl hrun8 ?_))
                go_roundw
                case rel => exact ⟨k + 1, true, Z ++ [x] ++ [y], hkm, by go_num, by trivial, HIN.out, by simp only [List.length_append, List.length_cons, List.length_nil]; omega, by first | exact HRN.out | simpa using HRN.out⟩
                case measure => simp [intOf]; omega
              · have e3 := less_not hlt
                have HIN := Lib.hid (ins_more HI.out HY.out HYX.out hlt)
                clear HI
                go_wp2_with fail
                go_quiet (fail)
                have hb5 : Below wr.heap.size wr (wr.drewN nq) := below_drewN (Below.refl _ wr) nq
                clear x0 x1
                generalize wr.drewN nq = w5 at hb5 ⊢
                obtain ⟨x0, x1, -⟩ := HF2.out _ hb5
                go_wp2_with fail
                go_quiet (fail)
                have hb6 : Below wr.heap.size wr (w5.drewN nq) := below_drewN hb5 nq
                clear x0 x1 hb5
                generalize w5.drewN nq = w6 at hb6 ⊢
                obtain ⟨x0, x1, hR6⟩ := HF2.out _ hb6
                obtain ⟨o7, c7, w7, hrun7, hR7⟩ := hR6.push y (by omega) 22
                have HRN := Lib.hid hR7
                clear hR6 hR7 hb6
                go_wp2_with (at_builtin; refine wpList_append_eq rfl _ _ 22 rfl _ _ _ w7 rfl rfl hrun7 ?_)
                go_roundw
                case rel => exact ⟨k + 1, false, Z ++ [y], hkm, by go_num, by trivial, HIN.out, by simp only [List.length_append, List.length_cons, List.length_nil]; omega, by first | exact HRN.out | simpa using HRN.out⟩
                case measure => simp [intOf]; omega
        · have hkm' : k = m := by omega
          subst hkm'
          have HE := Lib.hid (ins_end HI.out (by rw [← HM.out]; exact Nat.le_refl _))
          obtain ⟨bw, fw, rfl, hnc, x0⟩ := HW.out wr hR.2
          have hic : i < c := by omega
          have h0i : (0 : Int) ≤ (i : Int) := by omega
          clear HI hnc
          cases d with
          | true =>
            have HQ : Hid (RowS w wr (.slice zo Z.length zc) (sortT (ws.take (i + 1)))) := by
              show RowS _ _ _ _
              rw [HS.out, HE.out]
              exact hR.since HB0.out
            clear hR HE HS
            go_wp2_with fail
            go_roundw
            case rel => exact ⟨i + 1, hin, by go_num, HQ.out⟩
            case measure => simp [intOf]; omega
          | false =>
            obtain ⟨o7, c7, w7, hrun7, hR7⟩ := hR.push x (by omega) 22
            have HQ : Hid (RowS w w7 (.slice o7 (Z.length + 1) c7) (sortT (ws.take (i + 1)))) := by
              show RowS _ _ _ _
              rw [HS.out, HE.out]
              exact hR7.since HB0.out
            clear hR hR7 HE HS
            go_wp2_with (at_builtin; refine wpList_append_eq rfl _ _ 22 rfl _ _ _ w7 rfl rfl hrun7 ?_)
            go_roundw
            case rel => exact ⟨i + 1, hin, by go_num, HQ.out⟩
            case measure => simp [intOf]; omega
    · have HE : Hid (RowPost (sortT ws) w (.returned (.slice oo (sortT (ws.take i)).length oc)) wr) := by
        have e : ws.take i = ws := List.take_of_length_le (by rw [← HN.out]; omega)
        rw [e] at hR ⊢
        exact hR.post (Below.refl _ _)
      clear hR HC
      generalize (sortT (ws.take i)).length = q at HE ⊢
      go_wp2_with fail
      go_ret
      exact HE.out
end Go.Proofs.YtfdlcmjjnoapfaaGreatDoor
