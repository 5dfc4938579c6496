/-
  What the document's own each of chapter 10 puts together. For texts of at most a thousand bytes. No condition.
-/
import Derived.Deep.QuietTactic
import Derived.Deep.RegionHeld3
import Derived.BigQuiet
import Derived.WalkSpells
import Derived.Test.YtfdlcmjjnoapfaaGreatDoorOB
namespace Go.Proofs.YtfdlcmjjnoapfaaGreatDoor
open Go.RowKit Go.Shelf
attribute [local go_sem] Oper.semAt_some

theorem rany_told (ps : List BT) (x : BT) (o : Option Addr) (c : Nat) (w : World) (hr : CellsW w o c ps) (hn : ps.length ≤ 100000) (hz : ∀ p ∈ ps, p.length ≤ 100000) (hx : x.length ≤ 100000) :
    Calls Tryz.prog 102 #[.slice o ps.length c, .string (txt x)] w fun e w' => e = .returned (.bool (anyL ps x)) ∧ Below w.heap.size w w' := by
  have := refAny_any _ (ps.map txt) (txt x) _ w hr.reads (by rw [List.length_map]; unfold maxLen; omega) (fun p hp => by
    obtain ⟨q, hq, rfl⟩ := List.mem_map.1 hp
    have := hz q hq
    rw [txt_size]; omega) (by rw [txt_size]; omega)
  refine this.mono ?_
  rintro e w' ⟨rfl, nd, rfl⟩
  refine ⟨?_, below_drewN (Below.refl _ w) nd⟩
  have e : anyB (ps.map txt) (txt x) = anyL ps x := by
    unfold anyB anyL oneB
    rw [List.any_map]
    congr 1
  rw [e]

set_option maxRecDepth 100000 in
set_option maxHeartbeats 16000000 in
theorem each10_any (s a b t : ByteArray) (ha : a.size ≤ 1000) (hb : b.size ≤ 1000) (ht : t.size ≤ 1000) (w : World) : Calls Tryz.prog 64 #[.string s, .string a, .string b, .string t] w (RowPost (eachT s.data.toList a.data.toList b.data.toList (wordsT t.data.toList)) w) := by
  have HW := Lib.hid (rwords_told t (by omega) w)
  have hwl := words_few t.data.toList
  rw [size_list] at hwl
  have HZ : Hid (∀ x ∈ wordsT t.data.toList, x.length ≤ 1000) := fun x hx => by have := (words_memT hx).2; rw [size_list] at this; omega
  have HNe : Hid (∀ x ∈ wordsT t.data.toList, x ≠ []) := fun x hx => words_ne hx
  obtain ⟨N, hN⟩ : ∃ N, N = s.data.toList := ⟨_, rfl⟩
  have hs : s.toList = N := by rw [Lib.toList_data, hN]
  rw [← hN]
  have HS := Lib.hid hs
  generalize wordsT t.data.toList = ws at HW hwl HZ HNe ⊢
  obtain ⟨n, hn⟩ : ∃ n, n = ws.length := ⟨_, rfl⟩
  rw [← hn] at HW hwl
  have HN := Lib.hid hn
  have hnz : n ≤ 1001 := by omega
  clear hn hN hwl hs
  go_enter Tryz.func64, Tryz.ntmps64
  go_wp2_with fail
  refine HW.out.mono ?_
  rintro e w1 ⟨o, c, rfl, hc, hb1⟩
  have HC := cells_later hc HN.out
  have HB := Lib.hid hb1
  have h0 : Hid (RowS w1 w1 (.slice none 0 0) []) := RowS.start (Below.refl _ _)
  clear hc hb1 HW
  go_wp2_with fail
  go_loopw [10, 11, 12] (fun ov iv _ wr => ∃ (k : Nat) (acc : List BT), k ≤ n ∧ iv = .int .i64 k ∧ acc ++ eachT N a.data.toList b.data.toList (ws.drop k) = eachT N a.data.toList b.data.toList ws ∧ acc.length ≤ k ∧ RowS w1 wr ov acc) (fun _ iv _ _ => n - (intOf iv).toNat)
  case atStart => exact ⟨0, [], Nat.zero_le _, rfl, rfl, Nat.le_refl _, h0.out⟩
  case round =>
    obtain ⟨k, acc, hk, rfl, hacc, hal, hR⟩ := hrel
    obtain ⟨oo, oc, rfl, hR⟩ := hR.slice
    have HA := Lib.hid hacc
    clear hacc h0
    by_cases hkn : k < n
    · obtain ⟨x, hxk⟩ : ∃ x, ws[k]? = some x := ⟨ws[k]'(by rw [← HN.out]; exact hkn), List.getElem?_eq_getElem _⟩
      have hxl := HZ.out x (List.mem_of_getElem? hxk)
      have HXe := Lib.hid (HNe.out x (List.mem_of_getElem? hxk))
      have hnx := each_next (n := N) (a := a.data.toList) (b := b.data.toList) hxk
      have hki : (k : Int) < (n : Int) := by omega
      have h0k : (0 : Int) ≤ (k : Int) := by omega
      have HF : Hid (∀ W, Below wr.heap.size wr W → (∃ b f, o = some ⟨b, f, none⟩ ∧ n ≤ c ∧ W.cell? ⟨b, f + k, none⟩ = some (.string (txt x))) ∧ RowS w1 W (.slice oo acc.length oc) acc) := fun W hb =>
        ⟨HC.out W (hR.2.trans (hb.mono hR.2.size)) k x hxk, hR.below hb⟩
      obtain ⟨⟨b0, f0, rfl, hnc, x0⟩, -⟩ := HF.out wr (Below.refl _ _)
      have hkc : k < c := by omega
      have HF2 : Hid (∀ W, Below wr.heap.size wr W → W.cell? ⟨b0, f0 + k, none⟩ = some (.string (txt x)) ∧ RowS w1 W (.slice oo acc.length oc) acc) := fun W hb => by
        obtain ⟨⟨_, _, e1, _, q1⟩, q2⟩ := HF.out W hb
        cases e1
        exact ⟨q1, q2⟩
      have HT : Hid (oneE N a.data.toList b.data.toList x ≠ [] ∨ N = nPatsubst → (acc ++ [oneE N a.data.toList b.data.toList x]) ++ eachT N a.data.toList b.data.toList (ws.drop (k + 1)) = eachT N a.data.toList b.data.toList ws) := fun h => by
        rw [← HA.out, hnx, if_pos h, List.append_assoc]
      have HT2 : Hid (¬ (oneE N a.data.toList b.data.toList x ≠ [] ∨ N = nPatsubst) → acc ++ eachT N a.data.toList b.data.toList (ws.drop (k + 1)) = eachT N a.data.toList b.data.toList ws) := fun h => by
        rw [← HA.out, hnx, if_neg h]; rfl
      have hal2 : (acc ++ [x]).length ≤ k + 1 := by simp; omega
      clear hnx hxk hnc HF hR HA
      by_cases c0 : N = nStrip
      · have cc := c0
        clear c0
        have HO : Hid (oneE N a.data.toList b.data.toList x = x) := by show _ = _; rw [cc]; rfl
        have HP : Hid ((N = nPatsubst) = False) := by show _ = _; rw [cc]; simp only [eq_iff_iff, iff_false]; decide
        have q0 : (s.toList == [115, 116, 114, 105, 112]) = true := by rw [HS.out, cc]; decide
        have q1 : (s.toList == [112, 97, 116, 115, 117, 98, 115, 116]) = false := by rw [HS.out, cc]; decide
        have q2 : (s.toList == [102, 105, 108, 116, 101, 114]) = false := by rw [HS.out, cc]; decide
        have q3 : (s.toList == [102, 105, 108, 116, 101, 114, 45, 111, 117, 116]) = false := by rw [HS.out, cc]; decide
        have q4 : (s.toList == [97, 100, 100, 115, 117, 102, 102, 105, 120]) = false := by rw [HS.out, cc]; decide
        have q5 : (s.toList == [97, 100, 100, 112, 114, 101, 102, 105, 120]) = false := by rw [HS.out, cc]; decide
        clear cc
        have hv : ¬ x = [] := HXe.out
        have HE : Hid ((acc ++ [x]) ++ eachT N a.data.toList b.data.toList (ws.drop (k + 1)) = eachT N a.data.toList b.data.toList ws) := by have := HT.out (.inl (by rw [HO.out]; exact hv)); rwa [HO.out] at this
        have ev : (txt x).toList.isEmpty = false := by rw [txt_toL]; simpa using hv
        obtain ⟨po, pc, w3, hrun, hR3⟩ := (HF2.out wr (Below.refl _ _)).2.push x (by omega) 22
        have HR3 := Lib.hid hR3
        clear hR3
        clear hv
        go_wp2_with (at_builtin; refine wpList_append_eq rfl _ _ 22 rfl _ _ _ w3 rfl rfl hrun ?_)
        go_roundw
        case rel => exact ⟨k + 1, acc ++ [x], hkn, by go_num, HE.out, by simp; omega, HR3.out⟩
        case measure => simp [intOf]; omega
      by_cases c1 : N = nPatsubst
      · have cc := c1
        clear c0 c1
        have HO : Hid (oneE N a.data.toList b.data.toList x = substL a.data.toList b.data.toList x) := by show _ = _; rw [cc]; rfl
        have HP : Hid ((N = nPatsubst) = True) := by show _ = _; rw [cc]; simp
        have q0 : (s.toList == [115, 116, 114, 105, 112]) = false := by rw [HS.out, cc]; decide
        have q1 : (s.toList == [112, 97, 116, 115, 117, 98, 115, 116]) = true := by rw [HS.out, cc]; decide
        have q2 : (s.toList == [102, 105, 108, 116, 101, 114]) = false := by rw [HS.out, cc]; decide
        have q3 : (s.toList == [102, 105, 108, 116, 101, 114, 45, 111, 117, 116]) = false := by rw [HS.out, cc]; decide
        have q4 : (s.toList == [97, 100, 100, 115, 117, 102, 102, 105, 120]) = false := by rw [HS.out, cc]; decide
        have q5 : (s.toList == [97, 100, 100, 112, 114, 101, 102, 105, 120]) = false := by rw [HS.out, cc]; decide
        clear cc
        have hf := refSubst_any a b (txt x) (by omega) (by omega) (by rw [txt_size]; omega)
        rw [txt_data] at hf
        obtain ⟨v, hvv⟩ : ∃ v, v = substL a.data.toList b.data.toList x := ⟨_, rfl⟩
        rw [← hvv] at HO hf
        clear hvv
        have HSub := Lib.hid hf
        clear hf
        have HE : Hid ((acc ++ [v]) ++ eachT N a.data.toList b.data.toList (ws.drop (k + 1)) = eachT N a.data.toList b.data.toList ws) := by have := HT.out (.inr (by rw [HP.out]; trivial)); rwa [HO.out] at this
        go_wp2_with fail
        refine (HSub.out _).mono ?_
        rintro e w4 ⟨rfl, nd, rfl⟩
        have hb4 : Below wr.heap.size wr (wr.drewN nd) := below_drewN (Below.refl _ wr) nd
        generalize wr.drewN nd = w4 at hb4 ⊢
        obtain ⟨po, pc, w3, hrun, hR3⟩ := (HF2.out w4 hb4).2.push v (by omega) 22
        have HR3 := Lib.hid hR3
        clear hR3
        by_cases hv : v = []
        · have ev : (txt v).toList = [] := by rw [txt_toL]; exact hv
          clear hv
          go_wp2_with (at_builtin; refine wpList_append_eq rfl _ _ 22 rfl _ _ _ w3 rfl rfl hrun ?_)
          go_roundw
          case rel => exact ⟨k + 1, acc ++ [v], hkn, by go_num, HE.out, by simp; omega, HR3.out⟩
          case measure => simp [intOf]; omega
        · have ev : (txt v).toList.isEmpty = false := by rw [txt_toL]; simpa using hv
          clear hv
          go_wp2_with (at_builtin; refine wpList_append_eq rfl _ _ 22 rfl _ _ _ w3 rfl rfl hrun ?_)
          go_roundw
          case rel => exact ⟨k + 1, acc ++ [v], hkn, by go_num, HE.out, by simp; omega, HR3.out⟩
          case measure => simp [intOf]; omega
      by_cases c2 : N = nFilter
      · have cc := c2
        clear c0 c1 c2
        have HO : Hid (oneE N a.data.toList b.data.toList x = (if anyL (wordsT a.data.toList) x then x else [])) := by show _ = _; rw [cc]; rfl
        have HP : Hid ((N = nPatsubst) = False) := by show _ = _; rw [cc]; simp only [eq_iff_iff, iff_false]; decide
        have q0 : (s.toList == [115, 116, 114, 105, 112]) = false := by rw [HS.out, cc]; decide
        have q1 : (s.toList == [112, 97, 116, 115, 117, 98, 115, 116]) = false := by rw [HS.out, cc]; decide
        have q2 : (s.toList == [102, 105, 108, 116, 101, 114]) = true := by rw [HS.out, cc]; decide
        have q3 : (s.toList == [102, 105, 108, 116, 101, 114, 45, 111, 117, 116]) = false := by rw [HS.out, cc]; decide
        have q4 : (s.toList == [97, 100, 100, 115, 117, 102, 102, 105, 120]) = false := by rw [HS.out, cc]; decide
        have q5 : (s.toList == [97, 100, 100, 112, 114, 101, 102, 105, 120]) = false := by rw [HS.out, cc]; decide
        clear cc
        have HWa : Hid (∀ W, Calls Tryz.prog 62 #[.string a] W fun e W' => ∃ o c, e = .returned (.slice o (wordsT a.data.toList).length c) ∧ CellsW W' o c (wordsT a.data.toList) ∧ Below W.heap.size W W') := fun W => rwords_told a (by omega) W
        have hpl := words_few a.data.toList
        rw [size_list] at hpl
        have hpz : ∀ p ∈ wordsT a.data.toList, p.length ≤ 100000 := fun p hp => by have := (words_memT hp).2; rw [size_list] at this; omega
        have HAny : Hid (∀ o c W, CellsW W o c (wordsT a.data.toList) → Calls Tryz.prog 102 #[.slice o (wordsT a.data.toList).length c, .string (txt x)] W fun e w' => e = .returned (.bool (anyL (wordsT a.data.toList) x)) ∧ Below W.heap.size W w') := fun o c W h => rany_told _ x o c W h (by omega) hpz (by omega)
        clear hpl hpz
        generalize wordsT a.data.toList = ps at HWa HAny HO
        generalize hab : anyL ps x = ab at HAny HO
        have HKD : Hid (∀ W : World, Below wr.heap.size wr W → Below wr.heap.size wr W.drew) := fun W h => h.trans ⟨rfl, rfl, rfl, Nat.le_refl _, fun _ _ => rfl⟩
        have HKB : Hid (∀ W : World, Below wr.heap.size wr W → W.cell? ⟨b0, f0 + k, none⟩ = some (.string (txt x)) ∧ Below wr.heap.size wr W) := fun W h => ⟨(HF2.out W h).1, h⟩
        have HW9 : Hid (∀ W, Below wr.heap.size wr W → Calls Tryz.prog 62 #[.string a] W fun e W' => ∃ o c, e = .returned (.slice o ps.length c) ∧ CellsW W' o c ps ∧ W'.cell? ⟨b0, f0 + k, none⟩ = some (.string (txt x)) ∧ Below wr.heap.size wr W') := fun W h => by
          refine (HWa.out W).mono ?_
          rintro e W' ⟨o4, c4, rfl, hc4, hb4⟩
          have h9 := h.trans (hb4.mono h.size)
          exact ⟨o4, c4, rfl, hc4, (HF2.out W' h9).1, h9⟩
        have HA9 : Hid (∀ o c W, CellsW W o c ps → Below wr.heap.size wr W → Calls Tryz.prog 102 #[.slice o ps.length c, .string (txt x)] W fun e W' => e = .returned (.bool ab) ∧ W'.cell? ⟨b0, f0 + k, none⟩ = some (.string (txt x)) ∧ Below wr.heap.size wr W') := fun o c W hc h => by
          refine (HAny.out o c W hc).mono ?_
          rintro e W' ⟨rfl, hb4⟩
          have h9 := h.trans (hb4.mono h.size)
          exact ⟨rfl, (HF2.out W' h9).1, h9⟩
        clear HWa HAny hab
        generalize ps.length = pl at HW9 HA9
        have hbr : Below wr.heap.size wr wr := Below.refl _ _
        cases ab with
        | true =>
          have ev : (txt x).toList.isEmpty = false := by rw [txt_toL]; simpa using HXe.out
          have HE : Hid ((acc ++ [x]) ++ eachT N a.data.toList b.data.toList (ws.drop (k + 1)) = eachT N a.data.toList b.data.toList ws) := by have := HT.out (.inl (by rw [HO.out]; exact HXe.out)); rwa [HO.out] at this
          go_wp2_with fail
          go_region_held3 (fun W => W.cell? ⟨b0, f0 + k, none⟩ = some (.string (txt x)) ∧ Below wr.heap.size wr W)
            (first | exact ⟨by assumption, by assumption⟩ | exact HKB.out _ (HKD.out _ (by assumption)) | (go_split_ands; first | exact ⟨by assumption, by assumption⟩ | exact HKB.out _ (HKD.out _ (by assumption))))
            (first
              | (go_at_call 62; (with_reducible refine (HW9.out _ (by first | assumption | (go_split_ands; assumption))).mono ?_); rintro e w4 ⟨o4, c4, rfl, hc4, x4, hb4⟩)
              | (go_at_call 102; (with_reducible refine (HA9.out o4 c4 _ (by first | assumption | exact hc4) (by first | assumption | (go_split_ands; assumption))).mono ?_); rintro e w5 ⟨rfl, x5, hb5⟩))
          all_goals
            obtain ⟨po, pc, w3, hrun, hR3⟩ := (HF2.out w5 hb5).2.push x (by omega) 22
            have HR3 := Lib.hid hR3
            clear hR3
            go_wp2_with (at_builtin; refine wpList_append_eq rfl _ _ 22 rfl _ _ _ w3 rfl rfl hrun ?_)
            go_roundw
            case rel => exact ⟨k + 1, acc ++ [x], hkn, by go_num, HE.out, by simp; omega, HR3.out⟩
            case measure => simp [intOf]; omega
        | false =>
          have HE : Hid (acc ++ eachT N a.data.toList b.data.toList (ws.drop (k + 1)) = eachT N a.data.toList b.data.toList ws) := HT2.out (by rw [HO.out, HP.out]; simp)
          go_wp2_with fail
          go_region_held3 (fun W => W.cell? ⟨b0, f0 + k, none⟩ = some (.string (txt x)) ∧ Below wr.heap.size wr W)
            (first | exact ⟨by assumption, by assumption⟩ | exact HKB.out _ (HKD.out _ (by assumption)) | (go_split_ands; first | exact ⟨by assumption, by assumption⟩ | exact HKB.out _ (HKD.out _ (by assumption))))
            (first
              | (go_at_call 62; (with_reducible refine (HW9.out _ (by first | assumption | (go_split_ands; assumption))).mono ?_); rintro e w4 ⟨o4, c4, rfl, hc4, x4, hb4⟩)
              | (go_at_call 102; (with_reducible refine (HA9.out o4 c4 _ (by first | assumption | exact hc4) (by first | assumption | (go_split_ands; assumption))).mono ?_); rintro e w5 ⟨rfl, x5, hb5⟩))
          all_goals
            have HR3 := Lib.hid (HF2.out w5 hb5).2
            go_wp2_with fail
            go_roundw
            case rel => exact ⟨k + 1, acc, hkn, by go_num, HE.out, by omega, HR3.out⟩
            case measure => simp [intOf]; omega
      by_cases c3 : N = nFilterOut
      · have cc := c3
        clear c0 c1 c2 c3
        have HO : Hid (oneE N a.data.toList b.data.toList x = (if anyL (wordsT a.data.toList) x then [] else x)) := by show _ = _; rw [cc]; rfl
        have HP : Hid ((N = nPatsubst) = False) := by show _ = _; rw [cc]; simp only [eq_iff_iff, iff_false]; decide
        have q0 : (s.toList == [115, 116, 114, 105, 112]) = false := by rw [HS.out, cc]; decide
        have q1 : (s.toList == [112, 97, 116, 115, 117, 98, 115, 116]) = false := by rw [HS.out, cc]; decide
        have q2 : (s.toList == [102, 105, 108, 116, 101, 114]) = false := by rw [HS.out, cc]; decide
        have q3 : (s.toList == [102, 105, 108, 116, 101, 114, 45, 111, 117, 116]) = true := by rw [HS.out, cc]; decide
        have q4 : (s.toList == [97, 100, 100, 115, 117, 102, 102, 105, 120]) = false := by rw [HS.out, cc]; decide
        have q5 : (s.toList == [97, 100, 100, 112, 114, 101, 102, 105, 120]) = false := by rw [HS.out, cc]; decide
        clear cc
        have HWa : Hid (∀ W, Calls Tryz.prog 62 #[.string a] W fun e W' => ∃ o c, e = .returned (.slice o (wordsT a.data.toList).length c) ∧ CellsW W' o c (wordsT a.data.toList) ∧ Below W.heap.size W W') := fun W => rwords_told a (by omega) W
        have hpl := words_few a.data.toList
        rw [size_list] at hpl
        have hpz : ∀ p ∈ wordsT a.data.toList, p.length ≤ 100000 := fun p hp => by have := (words_memT hp).2; rw [size_list] at this; omega
        have HAny : Hid (∀ o c W, CellsW W o c (wordsT a.data.toList) → Calls Tryz.prog 102 #[.slice o (wordsT a.data.toList).length c, .string (txt x)] W fun e w' => e = .returned (.bool (anyL (wordsT a.data.toList) x)) ∧ Below W.heap.size W w') := fun o c W h => rany_told _ x o c W h (by omega) hpz (by omega)
        clear hpl hpz
        generalize wordsT a.data.toList = ps at HWa HAny HO
        generalize hab : anyL ps x = ab at HAny HO
        have HKD : Hid (∀ W : World, Below wr.heap.size wr W → Below wr.heap.size wr W.drew) := fun W h => h.trans ⟨rfl, rfl, rfl, Nat.le_refl _, fun _ _ => rfl⟩
        have HKB : Hid (∀ W : World, Below wr.heap.size wr W → W.cell? ⟨b0, f0 + k, none⟩ = some (.string (txt x)) ∧ Below wr.heap.size wr W) := fun W h => ⟨(HF2.out W h).1, h⟩
        have HW9 : Hid (∀ W, Below wr.heap.size wr W → Calls Tryz.prog 62 #[.string a] W fun e W' => ∃ o c, e = .returned (.slice o ps.length c) ∧ CellsW W' o c ps ∧ W'.cell? ⟨b0, f0 + k, none⟩ = some (.string (txt x)) ∧ Below wr.heap.size wr W') := fun W h => by
          refine (HWa.out W).mono ?_
          rintro e W' ⟨o4, c4, rfl, hc4, hb4⟩
          have h9 := h.trans (hb4.mono h.size)
          exact ⟨o4, c4, rfl, hc4, (HF2.out W' h9).1, h9⟩
        have HA9 : Hid (∀ o c W, CellsW W o c ps → Below wr.heap.size wr W → Calls Tryz.prog 102 #[.slice o ps.length c, .string (txt x)] W fun e W' => e = .returned (.bool ab) ∧ W'.cell? ⟨b0, f0 + k, none⟩ = some (.string (txt x)) ∧ Below wr.heap.size wr W') := fun o c W hc h => by
          refine (HAny.out o c W hc).mono ?_
          rintro e W' ⟨rfl, hb4⟩
          have h9 := h.trans (hb4.mono h.size)
          exact ⟨rfl, (HF2.out W' h9).1, h9⟩
        clear HWa HAny hab
        generalize ps.length = pl at HW9 HA9
        have hbr : Below wr.heap.size wr wr := Below.refl _ _
        cases ab with
        | true =>
          have HE : Hid (acc ++ eachT N a.data.toList b.data.toList (ws.drop (k + 1)) = eachT N a.data.toList b.data.toList ws) := HT2.out (by rw [HO.out, HP.out]; simp)
          go_wp2_with fail
          go_region_held3 (fun W => W.cell? ⟨b0, f0 + k, none⟩ = some (.string (txt x)) ∧ Below wr.heap.size wr W)
            (first | exact ⟨by assumption, by assumption⟩ | exact HKB.out _ (HKD.out _ (by assumption)) | (go_split_ands; first | exact ⟨by assumption, by assumption⟩ | exact HKB.out _ (HKD.out _ (by assumption))))
            (first
              | (go_at_call 62; (with_reducible refine (HW9.out _ (by first | assumption | (go_split_ands; assumption))).mono ?_); rintro e w4 ⟨o4, c4, rfl, hc4, x4, hb4⟩)
              | (go_at_call 102; (with_reducible refine (HA9.out o4 c4 _ (by first | assumption | exact hc4) (by first | assumption | (go_split_ands; assumption))).mono ?_); rintro e w5 ⟨rfl, x5, hb5⟩))
          all_goals
            have HR3 := Lib.hid (HF2.out w5 hb5).2
            go_wp2_with fail
            go_roundw
            case rel => exact ⟨k + 1, acc, hkn, by go_num, HE.out, by omega, HR3.out⟩
            case measure => simp [intOf]; omega
        | false =>
          have ev : (txt x).toList.isEmpty = false := by rw [txt_toL]; simpa using HXe.out
          have HE : Hid ((acc ++ [x]) ++ eachT N a.data.toList b.data.toList (ws.drop (k + 1)) = eachT N a.data.toList b.data.toList ws) := by have := HT.out (.inl (by rw [HO.out]; exact HXe.out)); rwa [HO.out] at this
          go_wp2_with fail
          go_region_held3 (fun W => W.cell? ⟨b0, f0 + k, none⟩ = some (.string (txt x)) ∧ Below wr.heap.size wr W)
            (first | exact ⟨by assumption, by assumption⟩ | exact HKB.out _ (HKD.out _ (by assumption)) | (go_split_ands; first | exact ⟨by assumption, by assumption⟩ | exact HKB.out _ (HKD.out _ (by assumption))))
            (first
              | (go_at_call 62; (with_reducible refine (HW9.out _ (by first | assumption | (go_split_ands; assumption))).mono ?_); rintro e w4 ⟨o4, c4, rfl, hc4, x4, hb4⟩)
              | (go_at_call 102; (with_reducible refine (HA9.out o4 c4 _ (by first | assumption | exact hc4) (by first | assumption | (go_split_ands; assumption))).mono ?_); rintro e w5 ⟨rfl, x5, hb5⟩))
          all_goals
            obtain ⟨po, pc, w3, hrun, hR3⟩ := (HF2.out w5 hb5).2.push x (by omega) 22
            have HR3 := Lib.hid hR3
            clear hR3
            go_wp2_with (at_builtin; refine wpList_append_eq rfl _ _ 22 rfl _ _ _ w3 rfl rfl hrun ?_)
            go_roundw
            case rel => exact ⟨k + 1, acc ++ [x], hkn, by go_num, HE.out, by simp; omega, HR3.out⟩
            case measure => simp [intOf]; omega
      by_cases c4 : N = nAddsuffix
      · have cc := c4
        clear c0 c1 c2 c3 c4
        have HO : Hid (oneE N a.data.toList b.data.toList x = x ++ a.data.toList) := by show _ = _; rw [cc]; rfl
        have HP : Hid ((N = nPatsubst) = False) := by show _ = _; rw [cc]; simp only [eq_iff_iff, iff_false]; decide
        have q0 : (s.toList == [115, 116, 114, 105, 112]) = false := by rw [HS.out, cc]; decide
        have q1 : (s.toList == [112, 97, 116, 115, 117, 98, 115, 116]) = false := by rw [HS.out, cc]; decide
        have q2 : (s.toList == [102, 105, 108, 116, 101, 114]) = false := by rw [HS.out, cc]; decide
        have q3 : (s.toList == [102, 105, 108, 116, 101, 114, 45, 111, 117, 116]) = false := by rw [HS.out, cc]; decide
        have q4 : (s.toList == [97, 100, 100, 115, 117, 102, 102, 105, 120]) = true := by rw [HS.out, cc]; decide
        have q5 : (s.toList == [97, 100, 100, 112, 114, 101, 102, 105, 120]) = false := by rw [HS.out, cc]; decide
        clear cc
        have hcat : (txt x ++ a).size ≤ 1000000 := by rw [ByteArray.size_append, txt_size]; omega
        have ecat : txt x ++ a = txt (x ++ a.data.toList) := by rw [← txt_app, txt_toList]
        obtain ⟨v, hvv⟩ : ∃ v, v = x ++ a.data.toList := ⟨_, rfl⟩
        have hv : ¬ v = [] := by rw [hvv]; intro h9; have := congrArg List.length h9; have := List.length_pos_iff.2 HXe.out; rw [List.length_append, List.length_nil] at *; omega
        rw [← hvv] at HO ecat
        clear hvv
        have HE : Hid ((acc ++ [v]) ++ eachT N a.data.toList b.data.toList (ws.drop (k + 1)) = eachT N a.data.toList b.data.toList ws) := by have := HT.out (.inl (by rw [HO.out]; exact hv)); rwa [HO.out] at this
        have ev : (txt v).toList.isEmpty = false := by rw [txt_toL]; simpa using hv
        obtain ⟨po, pc, w3, hrun, hR3⟩ := (HF2.out wr (Below.refl _ _)).2.push v (by omega) 22
        have HR3 := Lib.hid hR3
        clear hR3
        clear hv
        go_wp2_with (at_builtin; refine wpList_append_eq rfl _ _ 22 rfl _ _ _ w3 rfl rfl hrun ?_)
        go_roundw
        case rel => exact ⟨k + 1, acc ++ [v], hkn, by go_num, HE.out, by simp; omega, HR3.out⟩
        case measure => simp [intOf]; omega
      by_cases c5 : N = nAddprefix
      · have cc := c5
        clear c0 c1 c2 c3 c4 c5
        have HO : Hid (oneE N a.data.toList b.data.toList x = a.data.toList ++ x) := by show _ = _; rw [cc]; rfl
        have HP : Hid ((N = nPatsubst) = False) := by show _ = _; rw [cc]; simp only [eq_iff_iff, iff_false]; decide
        have q0 : (s.toList == [115, 116, 114, 105, 112]) = false := by rw [HS.out, cc]; decide
        have q1 : (s.toList == [112, 97, 116, 115, 117, 98, 115, 116]) = false := by rw [HS.out, cc]; decide
        have q2 : (s.toList == [102, 105, 108, 116, 101, 114]) = false := by rw [HS.out, cc]; decide
        have q3 : (s.toList == [102, 105, 108, 116, 101, 114, 45, 111, 117, 116]) = false := by rw [HS.out, cc]; decide
        have q4 : (s.toList == [97, 100, 100, 115, 117, 102, 102, 105, 120]) = false := by rw [HS.out, cc]; decide
        have q5 : (s.toList == [97, 100, 100, 112, 114, 101, 102, 105, 120]) = true := by rw [HS.out, cc]; decide
        clear cc
        have hcat : (a ++ txt x).size ≤ 1000000 := by rw [ByteArray.size_append, txt_size]; omega
        have ecat : a ++ txt x = txt (a.data.toList ++ x) := by rw [← txt_app, txt_toList]
        obtain ⟨v, hvv⟩ : ∃ v, v = a.data.toList ++ x := ⟨_, rfl⟩
        have hv : ¬ v = [] := by rw [hvv]; intro h9; have := congrArg List.length h9; have := List.length_pos_iff.2 HXe.out; rw [List.length_append, List.length_nil] at *; omega
        rw [← hvv] at HO ecat
        clear hvv
        have HE : Hid ((acc ++ [v]) ++ eachT N a.data.toList b.data.toList (ws.drop (k + 1)) = eachT N a.data.toList b.data.toList ws) := by have := HT.out (.inl (by rw [HO.out]; exact hv)); rwa [HO.out] at this
        have ev : (txt v).toList.isEmpty = false := by rw [txt_toL]; simpa using hv
        obtain ⟨po, pc, w3, hrun, hR3⟩ := (HF2.out wr (Below.refl _ _)).2.push v (by omega) 22
        have HR3 := Lib.hid hR3
        clear hR3
        clear hv
        go_wp2_with (at_builtin; refine wpList_append_eq rfl _ _ 22 rfl _ _ _ w3 rfl rfl hrun ?_)
        go_roundw
        case rel => exact ⟨k + 1, acc ++ [v], hkn, by go_num, HE.out, by simp; omega, HR3.out⟩
        case measure => simp [intOf]; omega
      have HP : Hid (partOf N x = oneE N a.data.toList b.data.toList x) := by show _ = _; unfold oneE; rw [if_neg c0, if_neg c1, if_neg c2, if_neg c3, if_neg c4, if_neg c5]
      have HNp := Lib.hid c1
      have q0 : (s.toList == [115, 116, 114, 105, 112]) = false := by rw [HS.out]; exact beq_eq_false_iff_ne.2 c0
      have q1 : (s.toList == [112, 97, 116, 115, 117, 98, 115, 116]) = false := by rw [HS.out]; exact beq_eq_false_iff_ne.2 c1
      have q2 : (s.toList == [102, 105, 108, 116, 101, 114]) = false := by rw [HS.out]; exact beq_eq_false_iff_ne.2 c2
      have q3 : (s.toList == [102, 105, 108, 116, 101, 114, 45, 111, 117, 116]) = false := by rw [HS.out]; exact beq_eq_false_iff_ne.2 c3
      have q4 : (s.toList == [97, 100, 100, 115, 117, 102, 102, 105, 120]) = false := by rw [HS.out]; exact beq_eq_false_iff_ne.2 c4
      have q5 : (s.toList == [97, 100, 100, 112, 114, 101, 102, 105, 120]) = false := by rw [HS.out]; exact beq_eq_false_iff_ne.2 c5
      clear c0 c1 c2 c3 c4 c5
      have hpart := part10_any s (txt x) (by rw [txt_size]; omega)
      rw [txt_data, ← Lib.toList_data, HS.out, HP.out] at hpart
      obtain ⟨v, hvv⟩ : ∃ v, v = oneE N a.data.toList b.data.toList x := ⟨_, rfl⟩
      rw [← hvv] at hpart
      have HPart := Lib.hid hpart
      have HV := Lib.hid hvv
      clear hpart hvv HP
      by_cases hv : v = []
      · have HE : Hid (acc ++ eachT N a.data.toList b.data.toList (ws.drop (k + 1)) = eachT N a.data.toList b.data.toList ws) := HT2.out (by rw [← HV.out, hv]; exact fun h => h.elim (fun h => h rfl) HNp.out)
        have ev : (txt v).toList = [] := by rw [txt_toL]; exact hv
        have HR3 := Lib.hid (HF2.out wr (Below.refl _ _)).2
        clear hv
        go_wp2_with fail
        refine (HPart.out _).mono ?_
        rintro e w4 ⟨rfl, rfl⟩
        go_wp2_with fail
        go_roundw
        case rel => exact ⟨k + 1, acc, hkn, by go_num, HE.out, by omega, HR3.out⟩
        case measure => simp [intOf]; omega
      · have HE : Hid ((acc ++ [v]) ++ eachT N a.data.toList b.data.toList (ws.drop (k + 1)) = eachT N a.data.toList b.data.toList ws) := by have := HT.out (.inl (by rw [← HV.out]; exact hv)); rwa [← HV.out] at this
        have ev : (txt v).toList.isEmpty = false := by rw [txt_toL]; simpa using hv
        obtain ⟨po, pc, w3, hrun, hR3⟩ := (HF2.out wr (Below.refl _ _)).2.push v (by omega) 22
        have HR3 := Lib.hid hR3
        clear hR3
        clear hv
        go_wp2_with fail
        refine (HPart.out _).mono ?_
        rintro e w4 ⟨rfl, rfl⟩
        go_wp2_with (at_builtin; refine wpList_append_eq rfl _ _ 22 rfl _ _ _ w3 rfl rfl hrun ?_)
        go_roundw
        case rel => exact ⟨k + 1, acc ++ [v], hkn, by go_num, HE.out, by simp; omega, HR3.out⟩
        case measure => simp [intOf]; omega
    · have HE : Hid (RowPost (eachT N a.data.toList b.data.toList ws) w (.returned (.slice oo acc.length oc)) wr) := by
        have e : acc = eachT N a.data.toList b.data.toList ws := by
          rw [← HA.out, each_done _ _ _ (by rw [← HN.out]; omega), List.append_nil]
        rw [← e]
        exact hR.post HB.out
      clear HA hR hal
      go_wp2_with fail
      go_ret
      exact HE.out
end Go.Proofs.YtfdlcmjjnoapfaaGreatDoor
