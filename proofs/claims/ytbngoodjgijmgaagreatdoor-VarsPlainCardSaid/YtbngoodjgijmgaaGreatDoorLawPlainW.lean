/-
  The walk over VarsPlain. No condition.
-/
import Derived.Test.YtbngoodjgijmgaaGreatDoorVNz
namespace Go.Proofs.YtbngoodjgijmgaaGreatDoor
open Go.RowKit Go.Shelf
attribute [local go_sem] Oper.semAt_some

theorem extract_one {s : ByteArray} {m : Nat} (h : m < s.size) : s.extract m (m + 1) = txt [s[m]] := by
  have h' : m < s.data.toList.length := by rw [Array.length_toList]; exact h
  rw [extract_txt, List.drop_eq_getElem_cons h', show m + 1 - m = 1 by omega, List.take_succ_cons, List.take_zero, Array.getElem_toList]; rfl
theorem dbl_cons (c : UInt8) (r : BT) : dblT (c :: r) = if c = 36 then 36 :: 36 :: dblT r else c :: dblT r := rfl
theorem dbl_app : ∀ (a b : BT), dblT (a ++ b) = dblT a ++ dblT b
  | [], _ => rfl
  | c :: a, b => by
    rw [List.cons_append, dbl_cons, dbl_cons, dbl_app a b]
    split <;> rfl
theorem dbl_len : ∀ (a : BT), (dblT a).length ≤ 2 * a.length
  | [] => by simp [dblT]
  | c :: a => by
    have := dbl_len a
    unfold dblT
    split
    · simp only [List.length_cons]; omega
    · simp only [List.length_cons]; omega
theorem dbl_snoc_dol (a : BT) : dblT (a ++ [36]) = dblT a ++ [36] ++ [36] := by rw [dbl_app]; simp [dblT]
theorem dbl_snoc (a : BT) (c : UInt8) (h : c ≠ 36) : dblT (a ++ [c]) = dblT a ++ [c] := by rw [dbl_app]; simp [dblT, h]
set_option maxRecDepth 100000 in
set_option maxHeartbeats 4000000 in
theorem varsPlain_walk (ao : Option Addr) (n ac : Nat) (l : EnvT) (hn : n = l.length) (hz : ∀ x ∈ l, x.1.length ≤ maxLen ∧ x.2.1.length ≤ maxLen) (s : ByteArray) (_hs : s.size ≤ maxLen) (t : ByteArray) (_ht : t.size ≤ maxLen) (w : World) (hst : Std w) (hI : InV w ao ac l) :
    Calls Tryz.prog 5 #[.slice ao n ac, .string s, .string t] w fun e w' => e = .returned (.bool true) ∧ Below w.heap.size w w' := by
  have HSh := Lib.hid (shown_any w hst)
  have HR : Hid (∀ W, Below w.heap.size w W → Calls Tryz.prog 12 #[.slice ao n ac] W (RowsPost l W)) := fun W hb => rows_any ao n ac l W hn (hI.below hb (Nat.le_refl _)) hz
  have HSt := Lib.hid hst
  clear hn hz hI hst
  by_cases hok : rowsOk l = true
  · by_cases h1 : (800 : Int) < (s.size : Int)
    · go_enter Tryz.func5, Tryz.ntmps5
      go_wp2_with fail
      refine HSh.out.mono ?_
      rintro e w1 ⟨rfl, hb1⟩
      have HB1 := Lib.hid hb1
      clear hb1 HSh
      go_wp2_with fail
      refine (HR.out w1 HB1.out).mono ?_
      rintro e w2 ⟨o, m, c, o', m', c', rfl, hb2, hE2⟩
      have HB2 : Hid (Below w.heap.size w w2) := HB1.out.trans (hb2.mono HB1.out.size)
      rw [hok]
      clear hb2 hE2 HR
      go_wp2_with fail
      go_ret
      exact ⟨rfl, ((HB2.out.alloc HB2.out.size _).alloc (by have := HB2.out.size; simp; omega) _)⟩
    by_cases h2 : (800 : Int) < (t.size : Int)
    · go_enter Tryz.func5, Tryz.ntmps5
      go_wp2_with fail
      refine HSh.out.mono ?_
      rintro e w1 ⟨rfl, hb1⟩
      have HB1 := Lib.hid hb1
      clear hb1 HSh
      go_wp2_with fail
      refine (HR.out w1 HB1.out).mono ?_
      rintro e w2 ⟨o, m, c, o', m', c', rfl, hb2, hE2⟩
      have HB2 : Hid (Below w.heap.size w w2) := HB1.out.trans (hb2.mono HB1.out.size)
      rw [hok]
      clear hb2 hE2 HR
      go_wp2_with fail
      go_ret
      exact ⟨rfl, ((HB2.out.alloc HB2.out.size _).alloc (by have := HB2.out.size; simp; omega) _)⟩
    obtain ⟨S, rfl⟩ : ∃ S, s = txt S := ⟨_, (txt_toList s).symm⟩
    obtain ⟨T, rfl⟩ : ∃ T, t = txt T := ⟨_, (txt_toList t).symm⟩
    rw [txt_size] at h1 h2
    have HO := Lib.hid hok
    clear hok
    go_enter Tryz.func5, Tryz.ntmps5
    go_wp2_with fail
    refine HSh.out.mono ?_
    rintro e w1 ⟨rfl, hb1⟩
    have HB1 := Lib.hid hb1
    clear hb1 HSh
    go_wp2_with fail
    refine (HR.out w1 HB1.out).mono ?_
    rintro e w2 ⟨o, m, c, o', m', c', rfl, hb2, hE2⟩
    obtain ⟨hE3, _⟩ := hE2 HO.out
    have HE3 := Lib.hid hE3
    have HB2 := Lib.hid hb2
    rw [HO.out]
    clear hb2 hE2 hE3 HR
    have hba := below_two w2 (.cells #[.slice o m c] 25) (.cells #[.slice o' m' c'] 28)
    obtain ⟨y0, _⟩ := one_cell (heap_first w2 (.cells #[.slice o m c] 25) (.cells #[.slice o' m' c'] 28))
    have HBa := Lib.hid hba
    clear hba
    go_wp2_with fail
    obtain ⟨X, hX⟩ : ∃ X, X = txt S := ⟨_, rfl⟩
    rw [← hX]
    have hXs : X.size = S.length := by rw [hX, txt_size]
    have hXd : X.data.toList = S := by rw [hX, txt_data]
    have HXx := Lib.hid (And.intro hX hXd)
    have hX8 : X.size ≤ 800 := by omega
    clear hX hXd
    go_loop [11, 12, 13] (fun tw pl i => ∃ (k : Nat) (pb : Bool), k ≤ X.size ∧ i = .int .i64 k ∧ tw = .string (txt (dblT (S.take k))) ∧ pl = .bool pb ∧ Hid (pb = true → 36 ∉ S.take k)) (fun _ _ i => X.size - (intOf i).toNat)
    case atStart => exact ⟨0, true, Nat.zero_le _, rfl, rfl, rfl, by show _ → _; simp⟩
    case round =>
      obtain ⟨k, pb, hk, rfl, rfl, rfl, HP⟩ := hrel
      have hdl : (dblT (S.take k)).length ≤ 1600 := by
        have h8 := dbl_len (S.take k)
        have h9 := List.length_take_le k S
        omega
      by_cases hlt : k < X.size
      · obtain ⟨c0, hc0⟩ : ∃ c0, c0 = X[k] := ⟨_, rfl⟩
        have ht : S.take (k + 1) = S.take k ++ [c0] := by rw [← HXx.out.2, take_last hlt, hc0]
        have y1 : X.extract k (k + 1) = txt [c0] := by rw [hc0]; exact extract_one hlt
        have y2 : txt (dblT (S.take k)) ++ (⟨#[36]⟩ : ByteArray) = txt (dblT (S.take k) ++ [36]) := add_txt (dblT (S.take k)) [36]
        have y3 := add_txt (dblT (S.take k) ++ [36]) [c0]
        have y4 := add_txt (dblT (S.take k)) [c0]
        have b1 : (0 : Int) ≤ (k : Int) := by omega
        have b2 : (k : Int) ≤ (k : Int) + 1 := by omega
        have b3 : (k : Int) + 1 ≤ (X.size : Int) := by omega
        by_cases h36 : X[k] = 36
        · have h36' : (X[k].toNat : Int) = 36 := by rw [h36]; rfl
          have HD : Hid (dblT (S.take (k + 1)) = dblT (S.take k) ++ [36] ++ [c0]) := by
            show _ = _
            rw [ht, hc0, h36, dbl_snoc_dol]
          clear ht hc0 h36
          go_wp2_with fail
          go_round
          case rel => exact ⟨k + 1, false, hlt, by go_num, by rw [HD.out]; simp, rfl, by show _ → _; intro h; cases h⟩
          case measure => simp [intOf]; omega
        · have h36' : ¬ (X[k].toNat : Int) = 36 := fun e => h36 (by
            apply UInt8.toNat_inj.1
            have : X[k].toNat = 36 := by omega
            rw [this]; rfl)
          have HD : Hid (dblT (S.take (k + 1)) = dblT (S.take k) ++ [c0]) := by
            show _ = _
            rw [ht, dbl_snoc _ _ (by rw [hc0]; exact h36)]
          have HP2 : Hid (pb = true → 36 ∉ S.take (k + 1)) := by
            show _ → _
            intro hp hh
            rw [ht] at hh
            rcases List.mem_append.1 hh with h | h
            · exact HP.out hp h
            · exact h36 (by rw [← hc0]; exact (List.mem_singleton.1 h).symm)
          clear ht hc0 h36
          go_wp2_with fail
          go_round
          case rel => exact ⟨k + 1, pb, hlt, by go_num, by rw [HD.out], rfl, HP2⟩
          case measure => simp [intOf]; omega
      · have htk : S.take k = S := List.take_of_length_le (by omega)
        rw [htk] at HP hdl
        rw [htk]
        obtain ⟨rfl, _⟩ := HXx.out
        have hok := rows_envok HO.out
        have hbW : Below w1.heap.size w1 ((w2.alloc (.cells #[.slice o m c] 25)).alloc (.cells #[.slice o' m' c'] 28)) := HB2.out.trans (HBa.out.mono HB2.out.size)
        have HEx : Hid (∀ (u : BT) (W : World), Below ((w2.alloc (.cells #[.slice o m c] 25)).alloc (.cells #[.slice o' m' c'] 28)).heap.size ((w2.alloc (.cells #[.slice o m c] 25)).alloc (.cells #[.slice o' m' c'] 28)) W → u.length ≤ 10000 → Calls Tryz.prog 13 #[.agg #[.slice o m c], .string (txt u)] W fun e w' => e = .returned (.tuple #[.string (txt (expandT (rowsE l) u).1), .int .i64 (expandT (rowsE l) u).2]) ∧ Below ((w2.alloc (.cells #[.slice o m c] 25)).alloc (.cells #[.slice o' m' c'] 28)).heap.size ((w2.alloc (.cells #[.slice o m c] 25)).alloc (.cells #[.slice o' m' c'] 28)) w' ∧ Below W.heap.size W w') := fun u W hb hu =>
          (expand_any _ o m c (rowsE l) u W (((HSt.out.below HB1.out).below hbW).below hb) ((HE3.out.below HBa.out).below hb) hok.less (by omega)).mono fun e w' h => ⟨h.1, hb.trans (h.2.mono hb.size), h.2⟩
        have HOf : Hid (∀ (u : BT) (W : World), Below ((w2.alloc (.cells #[.slice o m c] 25)).alloc (.cells #[.slice o' m' c'] 28)).heap.size ((w2.alloc (.cells #[.slice o m c] 25)).alloc (.cells #[.slice o' m' c'] 28)) W → u.length ≤ 10000 → Calls Tryz.prog 20 #[.agg #[.slice o m c], .string (txt u)] W fun e w' => e = .returned (.string (txt (expandT (rowsE l) u).1)) ∧ Below ((w2.alloc (.cells #[.slice o m c] 25)).alloc (.cells #[.slice o' m' c'] 28)).heap.size ((w2.alloc (.cells #[.slice o m c] 25)).alloc (.cells #[.slice o' m' c'] 28)) w' ∧ Below W.heap.size W w') := fun u W hb hu =>
          (of_any _ o m c (rowsE l) u W (((HSt.out.below HB1.out).below hbW).below hb) ((HE3.out.below HBa.out).below hb) hok.less (by omega)).mono fun e w' h => ⟨h.1, hb.trans (h.2.mono hb.size), h.2⟩
        have hb0 : Below ((w2.alloc (.cells #[.slice o m c] 25)).alloc (.cells #[.slice o' m' c'] 28)).heap.size ((w2.alloc (.cells #[.slice o m c] 25)).alloc (.cells #[.slice o' m' c'] 28)) ((w2.alloc (.cells #[.slice o m c] 25)).alloc (.cells #[.slice o' m' c'] 28)) := Below.refl _ _
        have H1 := Lib.hid (HEx.out (dblT S) _ hb0 (by omega))
        rw [expand_dbl _ _ (by omega)] at H1
        have HB0 := Lib.hid hb0
        have hl0 : w2.heap.size < ((w2.alloc (.cells #[.slice o m c] 25)).alloc (.cells #[.slice o' m' c'] 28)).heap.size := by simp; omega
        have HBW := Lib.hid hbW
        clear hok hb0 hbW
        go_wp2_with fail
        refine H1.out.mono ?_
        rintro e v1 ⟨rfl, hx1, hy1⟩
        have s1 := (hy1.cell (p := ⟨w2.heap.size, 0, none⟩) hl0).trans y0
        have l1 := Nat.lt_of_lt_of_le hl0 hy1.size
        have HX1 := Lib.hid hx1
        clear hx1 hy1 H1
        have e5 : ((txt S).toList == (txt S).toList) = true := by simp
        have HTail : Hid (∀ (W : World), Below ((w2.alloc (.cells #[.slice o m c] 25)).alloc (.cells #[.slice o' m' c'] 28)).heap.size ((w2.alloc (.cells #[.slice o m c] 25)).alloc (.cells #[.slice o' m' c'] 28)) W → True) := fun _ _ => trivial
        clear HTail
        cases pb with
        | true =>
          have H2 := Lib.hid (HOf.out S v1 HX1.out (by omega))
          rw [expand_plain _ _ (HP.out rfl) (by omega)] at H2
          go_wp2_with fail
          refine H2.out.mono ?_
          rintro e v2 ⟨rfl, hx2, hy2⟩
          have s2 := (hy2.cell (p := ⟨w2.heap.size, 0, none⟩) l1).trans s1
          have l2 := Nat.lt_of_lt_of_le l1 hy2.size
          have HX2 := Lib.hid hx2
          clear hx2 hy2 H2
          have E1 := Lib.hid (HEx.out S v2 HX2.out (by omega))
          have E2 : Hid (∀ W, Below ((w2.alloc (.cells #[.slice o m c] 25)).alloc (.cells #[.slice o' m' c'] 28)).heap.size ((w2.alloc (.cells #[.slice o m c] 25)).alloc (.cells #[.slice o' m' c'] 28)) W → Calls Tryz.prog 13 #[.agg #[.slice o m c], .string (txt T)] W fun e w' => e = .returned (.tuple #[.string (txt (expandT (rowsE l) T).1), .int .i64 (expandT (rowsE l) T).2]) ∧ Below ((w2.alloc (.cells #[.slice o m c] 25)).alloc (.cells #[.slice o' m' c'] 28)).heap.size ((w2.alloc (.cells #[.slice o m c] 25)).alloc (.cells #[.slice o' m' c'] 28)) w' ∧ Below W.heap.size W w') := fun W h => HEx.out T W h (by omega)
          have E3 : Hid (∀ W, Below ((w2.alloc (.cells #[.slice o m c] 25)).alloc (.cells #[.slice o' m' c'] 28)).heap.size ((w2.alloc (.cells #[.slice o m c] 25)).alloc (.cells #[.slice o' m' c'] 28)) W → Calls Tryz.prog 13 #[.agg #[.slice o m c], .string (txt (S ++ T))] W fun e w' => e = .returned (.tuple #[.string (txt (expandT (rowsE l) (S ++ T)).1), .int .i64 (expandT (rowsE l) (S ++ T)).2]) ∧ Below ((w2.alloc (.cells #[.slice o m c] 25)).alloc (.cells #[.slice o' m' c'] 28)).heap.size ((w2.alloc (.cells #[.slice o m c] 25)).alloc (.cells #[.slice o' m' c'] 28)) w' ∧ Below W.heap.size W w') := fun W h => HEx.out (S ++ T) W h (by simp; omega)
          have x1 := add_txt S T
          have HTwo : Hid ((expandT (rowsE l) S).2 = 0 → (expandT (rowsE l) T).2 = 0 → _) := fun a b => expand_two (rowsE l) S T a b
          have hl1 := expand_len (rowsE l) S
          have hl2 := expand_len (rowsE l) T
          generalize expandT (rowsE l) S = P1 at E1 HTwo hl1
          generalize expandT (rowsE l) T = P2 at E2 HTwo hl2
          generalize expandT (rowsE l) (S ++ T) = P3 at E3 HTwo
          have x2 := add_txt P1.1 P2.1
          clear HEx HOf
          go_wp2_with fail
          refine E1.out.mono ?_
          rintro e v3 ⟨rfl, hx3, hy3⟩
          have s3 := (hy3.cell (p := ⟨w2.heap.size, 0, none⟩) l2).trans s2
          have l3 := Nat.lt_of_lt_of_le l2 hy3.size
          have HX3 := Lib.hid hx3
          clear hx3 hy3 E1
          go_wp2_with fail
          refine (E2.out _ HX3.out).mono ?_
          rintro e v4 ⟨rfl, hx4, hy4⟩
          have s4 := (hy4.cell (p := ⟨w2.heap.size, 0, none⟩) l3).trans s3
          have l4 := Nat.lt_of_lt_of_le l3 hy4.size
          have HX4 := Lib.hid hx4
          clear hx4 hy4 E2
          go_wp2_with fail
          refine (E3.out _ HX4.out).mono ?_
          rintro e v5 ⟨rfl, hx5, hy5⟩
          have HX5 := Lib.hid hx5
          clear hx5 hy5 E3
          have HFin : Hid (Below w.heap.size w v5) := HB1.out.trans ((HBW.out.trans (HX5.out.mono HBW.out.size)).mono HB1.out.size)
          by_cases g1 : P1.2 = 0
          · by_cases g2 : P2.2 = 0
            · rcases HTwo.out g1 g2 with rfl | ⟨rfl, hlong⟩ | rfl
              · have z1 : (P1.2 != 0) = false := by rw [g1]; rfl
                have z2 : (P2.2 != 0) = false := by rw [g2]; rfl
                have z3 : ((txt (P1.1 ++ P2.1)).toList == (txt (P1.1 ++ P2.1)).toList) = true := by simp
                clear HTwo
                go_wp2_with fail
                go_ret
                exact ⟨rfl, HFin.out⟩
              · have z1 : (P1.2 != 0) = false := by rw [g1]; rfl
                have z2 : (P2.2 != 0) = false := by rw [g2]; rfl
                have z4 : (4000 : Int) < (P1.1.length : Int) + (P2.1.length : Int) := by omega
                clear HTwo
                go_wp2_with fail
                go_ret
                exact ⟨rfl, HFin.out⟩
              · have z1 : (P1.2 != 0) = false := by rw [g1]; rfl
                have z2 : (P2.2 != 0) = false := by rw [g2]; rfl
                have z5 : (txt ([] : BT)).toList.isEmpty = true := by rw [txt_toL]; rfl
                clear HTwo
                go_wp2_with fail
                go_ret
                exact ⟨rfl, HFin.out⟩
            · have z1 : (P1.2 != 0) = false := by rw [g1]; rfl
              have z2 : (P2.2 != 0) = true := by rw [bne_iff_ne]; exact g2
              clear HTwo
              go_wp2_with fail
              go_ret
              exact ⟨rfl, HFin.out⟩
          · have z1 : (P1.2 != 0) = true := by rw [bne_iff_ne]; exact g1
            clear HTwo
            go_wp2_with fail
            go_ret
            exact ⟨rfl, HFin.out⟩
        | false =>
          have E1 := Lib.hid (HEx.out S v1 HX1.out (by omega))
          have E2 : Hid (∀ W, Below ((w2.alloc (.cells #[.slice o m c] 25)).alloc (.cells #[.slice o' m' c'] 28)).heap.size ((w2.alloc (.cells #[.slice o m c] 25)).alloc (.cells #[.slice o' m' c'] 28)) W → Calls Tryz.prog 13 #[.agg #[.slice o m c], .string (txt T)] W fun e w' => e = .returned (.tuple #[.string (txt (expandT (rowsE l) T).1), .int .i64 (expandT (rowsE l) T).2]) ∧ Below ((w2.alloc (.cells #[.slice o m c] 25)).alloc (.cells #[.slice o' m' c'] 28)).heap.size ((w2.alloc (.cells #[.slice o m c] 25)).alloc (.cells #[.slice o' m' c'] 28)) w' ∧ Below W.heap.size W w') := fun W h => HEx.out T W h (by omega)
          have E3 : Hid (∀ W, Below ((w2.alloc (.cells #[.slice o m c] 25)).alloc (.cells #[.slice o' m' c'] 28)).heap.size ((w2.alloc (.cells #[.slice o m c] 25)).alloc (.cells #[.slice o' m' c'] 28)) W → Calls Tryz.prog 13 #[.agg #[.slice o m c], .string (txt (S ++ T))] W fun e w' => e = .returned (.tuple #[.string (txt (expandT (rowsE l) (S ++ T)).1), .int .i64 (expandT (rowsE l) (S ++ T)).2]) ∧ Below ((w2.alloc (.cells #[.slice o m c] 25)).alloc (.cells #[.slice o' m' c'] 28)).heap.size ((w2.alloc (.cells #[.slice o m c] 25)).alloc (.cells #[.slice o' m' c'] 28)) w' ∧ Below W.heap.size W w') := fun W h => HEx.out (S ++ T) W h (by simp; omega)
          have x1 := add_txt S T
          have HTwo : Hid ((expandT (rowsE l) S).2 = 0 → (expandT (rowsE l) T).2 = 0 → _) := fun a b => expand_two (rowsE l) S T a b
          have hl1 := expand_len (rowsE l) S
          have hl2 := expand_len (rowsE l) T
          generalize expandT (rowsE l) S = P1 at E1 HTwo hl1
          generalize expandT (rowsE l) T = P2 at E2 HTwo hl2
          generalize expandT (rowsE l) (S ++ T) = P3 at E3 HTwo
          have x2 := add_txt P1.1 P2.1
          clear HEx HOf
          go_wp2_with fail
          refine E1.out.mono ?_
          rintro e v3 ⟨rfl, hx3, hy3⟩
          have s3 := (hy3.cell (p := ⟨w2.heap.size, 0, none⟩) l1).trans s1
          have l3 := Nat.lt_of_lt_of_le l1 hy3.size
          have HX3 := Lib.hid hx3
          clear hx3 hy3 E1
          go_wp2_with fail
          refine (E2.out _ HX3.out).mono ?_
          rintro e v4 ⟨rfl, hx4, hy4⟩
          have s4 := (hy4.cell (p := ⟨w2.heap.size, 0, none⟩) l3).trans s3
          have l4 := Nat.lt_of_lt_of_le l3 hy4.size
          have HX4 := Lib.hid hx4
          clear hx4 hy4 E2
          go_wp2_with fail
          refine (E3.out _ HX4.out).mono ?_
          rintro e v5 ⟨rfl, hx5, hy5⟩
          have HX5 := Lib.hid hx5
          clear hx5 hy5 E3
          have HFin : Hid (Below w.heap.size w v5) := HB1.out.trans ((HBW.out.trans (HX5.out.mono HBW.out.size)).mono HB1.out.size)
          by_cases g1 : P1.2 = 0
          · by_cases g2 : P2.2 = 0
            · rcases HTwo.out g1 g2 with rfl | ⟨rfl, hlong⟩ | rfl
              · have z1 : (P1.2 != 0) = false := by rw [g1]; rfl
                have z2 : (P2.2 != 0) = false := by rw [g2]; rfl
                have z3 : ((txt (P1.1 ++ P2.1)).toList == (txt (P1.1 ++ P2.1)).toList) = true := by simp
                clear HTwo
                go_wp2_with fail
                go_ret
                exact ⟨rfl, HFin.out⟩
              · have z1 : (P1.2 != 0) = false := by rw [g1]; rfl
                have z2 : (P2.2 != 0) = false := by rw [g2]; rfl
                have z4 : (4000 : Int) < (P1.1.length : Int) + (P2.1.length : Int) := by omega
                clear HTwo
                go_wp2_with fail
                go_ret
                exact ⟨rfl, HFin.out⟩
              · have z1 : (P1.2 != 0) = false := by rw [g1]; rfl
                have z2 : (P2.2 != 0) = false := by rw [g2]; rfl
                have z5 : (txt ([] : BT)).toList.isEmpty = true := by rw [txt_toL]; rfl
                clear HTwo
                go_wp2_with fail
                go_ret
                exact ⟨rfl, HFin.out⟩
            · have z1 : (P1.2 != 0) = false := by rw [g1]; rfl
              have z2 : (P2.2 != 0) = true := by rw [bne_iff_ne]; exact g2
              clear HTwo
              go_wp2_with fail
              go_ret
              exact ⟨rfl, HFin.out⟩
          · have z1 : (P1.2 != 0) = true := by rw [bne_iff_ne]; exact g1
            clear HTwo
            go_wp2_with fail
            go_ret
            exact ⟨rfl, HFin.out⟩
  · have h0 : rowsOk l = false := by simpa using hok
    go_enter Tryz.func5, Tryz.ntmps5
    go_wp2_with fail
    refine HSh.out.mono ?_
    rintro e w1 ⟨rfl, hb1⟩
    have HB1 := Lib.hid hb1
    clear hb1 HSh
    go_wp2_with fail
    refine (HR.out w1 HB1.out).mono ?_
    rintro e w2 ⟨o, m, c, o', m', c', rfl, hb2, hE2⟩
    have HB2 : Hid (Below w.heap.size w w2) := HB1.out.trans (hb2.mono HB1.out.size)
    rw [h0]
    clear hb2 hE2 HR
    go_wp2_with fail
    go_ret
    exact ⟨rfl, ((HB2.out.alloc HB2.out.size _).alloc (by have := HB2.out.size; simp; omega) _)⟩
end Go.Proofs.YtbngoodjgijmgaaGreatDoor
