/-
  The walk over VarsWays. No condition.
-/
import Derived.Test.YtbngoodjgijmgaaGreatDoorVKp
import Derived.Test.YtbngoodjgijmgaaGreatDoorVWs
namespace Go.Proofs.YtbngoodjgijmgaaGreatDoor
open Go.RowKit Go.Shelf
attribute [local go_sem] Oper.semAt_some

theorem of_later {Q : Nat → Prop} {o : Option Addr} {m c : Nat} {env : EnvT} {W : World} (hst : Std W) (h : EnvS W Q (.slice o m c) env) (hE : EnvOk env 20) (s t : BT) (hs : s.length ≤ 1000000) (ht : (expandT env s).1 = t) :
    Hid (∀ W', Later W W' → Calls Tryz.prog 20 #[.agg #[.slice o m c], .string (txt s)] W' fun e w' => e = .returned (.string (txt t)) ∧ Later W' w') := fun W' hb => by
  subst ht
  exact of_any _ o m c env s W' (hst.below hb) (h.below hb) hE hs
theorem drop_at {s : ByteArray} {i : Nat} (h : i < s.size) : s.data.toList.drop i = s[i] :: s.data.toList.drop (i + 1) := by
  have h' : i < s.data.toList.length := by rw [Array.length_toList]; exact h
  rw [List.drop_eq_getElem_cons h', Array.getElem_toList]; rfl
/-- What the loop over the bytes keeps. -/
structure WordsAt (A : BT) (i k : Nat) (inn bl : Bool) : Prop where
  blank : bl = (A.take i).all blankB
  many : k + cntW inn (A.drop i) = (wordsT A).length
  few : k ≤ i
theorem WordsAt.start (A : BT) : WordsAt A 0 0 false true := ⟨by rw [List.take_zero]; rfl, by rw [List.drop_zero, Nat.zero_add, (cnt_words A).1], Nat.le_refl _⟩
section
variable {s : ByteArray} {i k : Nat} {inn bl : Bool}
theorem WordsAt.gap (h : WordsAt s.data.toList i k inn bl) (hi : i < s.size) (hb : blankB s[i] = true) : WordsAt s.data.toList (i + 1) k false bl := by
  refine ⟨?_, ?_, by have := h.few; omega⟩
  · rw [take_last hi, List.all_append, ← h.blank]; simp [hb]
  · rw [← h.many, drop_at hi]
    conv => rhs; unfold cntW
    rw [if_pos hb]
theorem WordsAt.byte (h : WordsAt s.data.toList i k inn bl) (hi : i < s.size) (hb : blankB s[i] = false) : WordsAt s.data.toList (i + 1) (if inn = true then k else k + 1) true false := by
  refine ⟨?_, ?_, by have := h.few; split <;> omega⟩
  · rw [take_last hi, List.all_append]; simp [hb]
  · rw [← h.many, drop_at hi]
    conv => rhs; unfold cntW
    rw [if_neg (show ¬ blankB s[i] = true by rw [hb]; simp)]
    cases inn <;> simp <;> omega
theorem WordsAt.stop (h : WordsAt s.data.toList i k inn bl) (hi : s.size ≤ i) : (bl = true ↔ trimOf s.data.toList = []) ∧ k = (wordsT s.data.toList).length := by
  refine ⟨?_, ?_⟩
  · rw [trim_all, h.blank, List.take_of_length_le (by rw [size_list]; exact hi)]
  · have := h.many
    rw [List.drop_eq_nil_of_le (by rw [size_list]; exact hi)] at this
    have e : cntW inn [] = 0 := by unfold cntW; rfl
    omega
end
theorem ways_small (a b c : BT) : rowsOk (ways4 a b c) = decide (a.length ≤ 600 ∧ b.length ≤ 600 ∧ c.length ≤ 600) := by
  unfold rowsOk ways4 smallV
  simp
set_option maxRecDepth 100000 in
set_option maxHeartbeats 8000000 in
theorem varsWays_walk (a : ByteArray) (ha : a.size ≤ maxLen) (b : ByteArray) (hb : b.size ≤ maxLen) (c : ByteArray) (hc : c.size ≤ maxLen) (w : World) (hst : Std w) :
    Calls Tryz.prog 7 #[.string a, .string b, .string c] w fun e w' => e = .returned (.bool true) ∧ Below w.heap.size w w' := by
  obtain ⟨A, hA⟩ : ∃ A, A = a.data.toList := ⟨_, rfl⟩
  obtain ⟨B, rfl⟩ : ∃ B, b = txt B := ⟨_, (txt_toList b).symm⟩
  obtain ⟨C, rfl⟩ : ∃ C, c = txt C := ⟨_, (txt_toList c).symm⟩
  have hat : txt A = a := by rw [hA]; exact txt_toList a
  have hal : a.size = A.length := by rw [hA, size_list]
  rw [txt_size] at hb hc
  have HSh : Hid (∀ W, Later w W → Calls Tryz.prog 11 #[] W fun e w' => e = .returned (.bool true) ∧ Later W w') := fun W hb => shown_any W (hst.below hb)
  have HR : Hid (∀ W, Later w W → Calls Tryz.prog 12 #[.slice (some ⟨W.heap.size, 0, none⟩) 4 4] (W.alloc (.cells #[.string ⟨#[97]⟩, .string a, .bool true, .string ⟨#[98]⟩, .string (txt B), .bool true, .string ⟨#[99]⟩, .string (txt C), .bool true, .string ⟨#[102]⟩, .string ⟨#[91, 36, 40, 49, 41, 124, 36, 40, 50, 41, 93]⟩, .bool false] 36)) fun e w' => ∃ o m c o' m' c', e = .returned (.tuple #[.agg #[.slice o m c], .agg #[.slice o' m' c'], .bool (rowsOk (ways4 A B C))]) ∧ Later W w' ∧
      (rowsOk (ways4 A B C) = true → EnvS w' (fun _ => True) (.slice o m c) (rowsE (ways4 A B C)))) := fun W hW => by
    rw [← hat]
    have hI := in_new W (ways4 A B C) #[.string (txt [97]), .string (txt A), .bool true, .string (txt [98]), .string (txt B), .bool true, .string (txt [99]), .string (txt C), .bool true, .string (txt [102]), .string (txt [91, 36, 40, 49, 41, 124, 36, 40, 50, 41, 93]), .bool false] rfl
    have := rows_any (some ⟨W.heap.size, 0, none⟩) 4 4 (ways4 A B C) _ rfl hI (fun x hx => by
      have h4 : x = ([97], A, true) ∨ x = ([98], B, true) ∨ x = ([99], C, true) ∨ x = ([102], [91, 36, 40, 49, 41, 124, 36, 40, 50, 41, 93], false) := by simpa [ways4] using hx
      rcases h4 with rfl | rfl | rfl | rfl
      · exact ⟨by show 1 ≤ _; unfold maxLen; omega, by show A.length ≤ _; omega⟩
      · exact ⟨by show 1 ≤ _; unfold maxLen; omega, hb⟩
      · exact ⟨by show 1 ≤ _; unfold maxLen; omega, hc⟩
      · exact ⟨by show 1 ≤ _; unfold maxLen; omega, by show 11 ≤ _; unfold maxLen; omega⟩)
    refine this.mono ?_
    rintro e w' ⟨o, m, c, o', m', c', rfl, hb2, hE⟩
    exact ⟨o, m, c, o', m', c', rfl, (Later.self W _).on hb2, fun h => (hE h).1.wider (fun _ _ _ => trivial)⟩
  have HSt : Hid (∀ W, Later w W → Std W) := fun W hb => hst.below hb
  have HAt := Lib.hid hat
  have zb : (txt B).size = B.length := txt_size _
  have zc : (txt C).size = C.length := txt_size _
  have hwb := Lib.hid (Below.refl w.heap.size w)
  clear hst hat
  have hcases : (rowsOk (ways4 A B C) = false ∨ (rowsOk (ways4 A B C) = true ∧ (A.length ≤ 600 ∧ B.length ≤ 600 ∧ C.length ≤ 600) ∧ (800 : Int) < (A.length : Int) + (B.length : Int) + (C.length : Int))) ∨
      (rowsOk (ways4 A B C) = true ∧ (A.length ≤ 600 ∧ B.length ≤ 600 ∧ C.length ≤ 600) ∧ ¬ (800 : Int) < (A.length : Int) + (B.length : Int) + (C.length : Int)) := by
    rw [ways_small]
    by_cases h : A.length ≤ 600 ∧ B.length ≤ 600 ∧ C.length ≤ 600
    · rw [decide_eq_true h]
      by_cases h2 : (800 : Int) < (A.length : Int) + (B.length : Int) + (C.length : Int)
      · exact .inl (.inr ⟨rfl, h, h2⟩)
      · exact .inr ⟨rfl, h, h2⟩
    · rw [decide_eq_false h]
      exact .inl (.inl rfl)
  rcases hcases with hbad | ⟨hok, ⟨d1, d2, d3⟩, d4⟩
  · rcases hbad with hok | ⟨hok, ⟨d1, d2, d3⟩, d4⟩
    all_goals (
      have HO := Lib.hid hok
      rw [← hal] at *
      clear hok
      go_enter Tryz.func7, Tryz.ntmps7
      go_wp2_with fail
      refine (HSh.out w hwb.out).mono ?_
      rintro e w1 ⟨rfl, hb1⟩
      have HB1 := Lib.hid hb1
      clear hb1 HSh
      go_wp2_with fail
      refine (HR.out w1 HB1.out).mono ?_
      rintro e w2 ⟨o, m, c, o', m', c', rfl, hb2, hE2⟩
      rw [HO.out]
      have hb3 := (HB1.out.on hb2).put (.cells #[.slice o m c] 25)
      have HB3 := Lib.hid (hb3.put (.cells #[.slice o' m' c'] 28))
      clear hb2 hE2 HR hb3
      go_wp2_with fail
      go_ret
      exact ⟨rfl, HB3.out⟩)
  · have HO := Lib.hid hok
    clear hok
    rw [← hal] at d1 d4
    go_enter Tryz.func7, Tryz.ntmps7
    go_wp2_with fail
    refine (HSh.out w hwb.out).mono ?_
    rintro e w1 ⟨rfl, hb1⟩
    have HB1 := Lib.hid hb1
    clear hb1 HSh
    go_wp2_with fail
    refine (HR.out w1 HB1.out).mono ?_
    rintro e w2 ⟨o, m, cc, o', m', c', rfl, hb2, hE2⟩
    rw [HO.out]
    have hE := hE2 HO.out
    have hst2 := HSt.out w2 (HB1.out.on hb2)
    have hok20 := (rows_envok HO.out).less
    have h1 := of_later hst2 hE hok20 [36, 40, 105, 102, 32, 36, 40, 97, 41, 44, 36, 40, 98, 41, 44, 36, 40, 99, 41, 41] _ (by decide) rfl
    rw [ways_if A B C (by omega) (by omega) (by omega)] at h1
    have h2 := of_later hst2 hE hok20 [36, 40, 99, 97, 108, 108, 32, 102, 44, 36, 40, 97, 41, 44, 36, 40, 98, 41, 41] _ (by decide) rfl
    rw [ways_call A B C (by omega) (by omega)] at h2
    have h3 := of_later hst2 hE hok20 [36, 40, 102, 111, 114, 101, 97, 99, 104, 32, 120, 44, 36, 40, 97, 41, 44, 46, 41] _ (by decide) rfl
    rw [ways_each A B C (by omega)] at h3
    have h4 := of_later hst2 hE hok20 [36, 40, 97, 41, 36, 40, 98, 41] _ (by decide) rfl
    rw [ways_two A B C (by omega)] at h4
    have H1 : Hid (∀ W, Later w2 W → Calls Tryz.prog 20 #[.agg #[.slice o m cc], .string ⟨#[36, 40, 105, 102, 32, 36, 40, 97, 41, 44, 36, 40, 98, 41, 44, 36, 40, 99, 41, 41]⟩] W fun e w' => e = .returned (.string (txt (if trimOf A = [] then C else B))) ∧ Later W w') := h1
    have H2 : Hid (∀ W, Later w2 W → Calls Tryz.prog 20 #[.agg #[.slice o m cc], .string ⟨#[36, 40, 99, 97, 108, 108, 32, 102, 44, 36, 40, 97, 41, 44, 36, 40, 98, 41, 41]⟩] W fun e w' => e = .returned (.string (txt (91 :: A ++ 124 :: B ++ [93]))) ∧ Later W w') := h2
    have H3 : Hid (∀ W, Later w2 W → Calls Tryz.prog 20 #[.agg #[.slice o m cc], .string ⟨#[36, 40, 102, 111, 114, 101, 97, 99, 104, 32, 120, 44, 36, 40, 97, 41, 44, 46, 41]⟩] W fun e w' => e = .returned (.string (txt (dotsT (wordsT A).length))) ∧ Later W w') := h3
    have H4 : Hid (∀ W, Later w2 W → Calls Tryz.prog 20 #[.agg #[.slice o m cc], .string ⟨#[36, 40, 97, 41, 36, 40, 98, 41]⟩] W fun e w' => e = .returned (.string (txt (A ++ B))) ∧ Later W w') := h4
    have hb3 := (Later.on (Below.refl _ w2) (Later.self w2 (.cells #[.slice o m cc] 25))).put (.cells #[.slice o' m' c'] 28)
    have HB3 := Lib.hid ((HB1.out.on hb2).on hb3)
    have K3 := ((Keep.nil w2).put (.cells #[.slice o m cc] 25)).put (.cells #[.slice o' m' c'] 28)
    have HC3 := Lib.hid hb3
    have HK3 := Lib.hid K3
    have hwl : (wordsT A).length ≤ 601 := by have := words_few A; omega
    have HW0 := Lib.hid (WordsAt.start A)
    have HAA := Lib.hid hA
    rw [hA] at HW0
    clear hb2 hE2 HR hE hst2 hok20 h1 h2 h3 h4 hb3 K3 hA HSt HB1
    go_wp2_with fail
    generalize (w2.alloc (.cells #[.slice o m cc] 25)).alloc (.cells #[.slice o' m' c'] 28) = w3 at HB3 HC3 HK3 ⊢
    go_loop [11, 12, 13, 14] (fun bv mv nv iv => ∃ (i k : Nat) (inn bl : Bool), i ≤ a.size ∧ k ≤ 1000 ∧ bv = .bool bl ∧ mv = .int .i64 k ∧ nv = .bool inn ∧ iv = .int .i64 i ∧ Hid (WordsAt a.data.toList i k inn bl)) (fun _ _ _ iv => a.size - (intOf iv).toNat)
    case atStart => exact ⟨0, 0, false, true, Nat.zero_le _, Nat.zero_le _, rfl, rfl, rfl, rfl, HW0⟩
    case round =>
      obtain ⟨i, k, inn, bl, hi, hk, rfl, rfl, rfl, rfl, HW⟩ := hrel
      clear HW0
      by_cases hlt : i < a.size
      · have hil : (i : Int) < (a.size : Int) := by omega
        have hi0 : (0 : Int) ≤ (i : Int) := by omega
        by_cases hbl : blankB a[i] = true
        · have HN := Lib.hid (HW.out.gap hlt hbl)
          have hb9 : a[i].toNat = 32 ∨ a[i].toNat = 9 := by unfold blankB at hbl; simpa using hbl
          clear hbl
          rcases hb9 with h9 | h9
          · have e1 : ((a[i].toNat : Int) == 32) = true := by rw [h9]; rfl
            clear h9
            go_wp2_with fail
            go_round
            case rel => exact ⟨i + 1, k, false, bl, hlt, hk, rfl, rfl, rfl, by go_num, HN⟩
            case measure => simp [intOf]; omega
          · have e1 : ((a[i].toNat : Int) == 32) = false := by rw [h9]; rfl
            have e2 : ((a[i].toNat : Int) == 9) = true := by rw [h9]; rfl
            clear h9
            go_wp2_with fail
            go_round
            case rel => exact ⟨i + 1, k, false, bl, hlt, hk, rfl, rfl, rfl, by go_num, HN⟩
            case measure => simp [intOf]; omega
        · have hbl' : blankB a[i] = false := by simpa using hbl
          have HN := HW.out.byte hlt hbl'
          have hb9 : ¬ a[i].toNat = 32 ∧ ¬ a[i].toNat = 9 := by unfold blankB at hbl'; simpa using hbl'
          have e1 : ((a[i].toNat : Int) == 32) = false := by rw [beq_eq_false_iff_ne]; omega
          have e2 : ((a[i].toNat : Int) == 9) = false := by rw [beq_eq_false_iff_ne]; omega
          have hkk := HN.few
          clear hbl hbl' hb9
          cases inn with
          | true =>
            rw [if_pos rfl] at HN
            have HN := Lib.hid HN
            clear hkk
            go_wp2_with fail
            go_round
            case rel => exact ⟨i + 1, k, true, false, hlt, hk, rfl, rfl, rfl, by go_num, HN⟩
            case measure => simp [intOf]; omega
          | false =>
            rw [if_neg (by simp)] at HN hkk
            have HN := Lib.hid HN
            have hk2 : k + 1 ≤ 1000 := by omega
            clear hkk
            go_wp2_with fail
            go_round
            case rel => exact ⟨i + 1, k + 1, true, false, hlt, hk2, rfl, by go_num, rfl, by go_num, HN⟩
            case measure => simp [intOf]; omega
      · have hil : ¬ (i : Int) < (a.size : Int) := by omega
        obtain ⟨hbt, hkw⟩ := HW.out.stop (by omega)
        rw [← HAA.out] at hbt hkw
        rw [← hkw] at H3
        obtain ⟨t0, _⟩ := one_cell HK3.out.tail.head
        have HFin := HB3
        obtain ⟨X, hX⟩ : ∃ X, X = (if bl = true then C else B) := ⟨_, rfl⟩
        have hX2 : (if trimOf A = [] then C else B) = X := by
          rw [hX]
          cases bl with
          | true => rw [if_pos (hbt.1 rfl), if_pos rfl]
          | false => rw [if_neg (fun h => by have := hbt.2 h; cases this), if_neg (by simp)]
        rw [hX2] at H1
        have HX := Lib.hid hX
        clear HW hbt hkw hX hX2 hwl
        have HLoop : Hid (∀ j : Nat, 0 < j → txt (dotsT j) ++ ⟨#[32]⟩ ++ ⟨#[46]⟩ = txt (dotsT (j + 1))) := fun j hj => by
          rw [dots_next j hj]
          show txt (dotsT j) ++ txt [32] ++ txt [46] = _
          rw [add_txt, add_txt]
        obtain ⟨R, hR⟩ : ∃ R, R = 91 :: A ++ 124 :: B ++ [93] := ⟨_, rfl⟩
        obtain ⟨R2, hR2⟩ : ∃ R2, R2 = A ++ B := ⟨_, rfl⟩
        rw [← hR] at H2
        rw [← hR2] at H4
        have z2 : ∀ x : BT, ((txt x).toList == (txt x).toList) = true := fun x => by simp
        have e7 : ⟨#[91]⟩ ++ a ++ ⟨#[124]⟩ ++ txt B ++ ⟨#[93]⟩ = txt R := by
          rw [← HAt.out, hR]
          show txt [91] ++ txt A ++ txt [124] ++ txt B ++ txt [93] = _
          rw [add_txt, add_txt, add_txt, add_txt]
          congr 1
          simp
        have e8 : a ++ txt B = txt R2 := by rw [← HAt.out, hR2, add_txt]
        have q7 : ((txt R).toList == (⟨#[91]⟩ ++ a ++ ⟨#[124]⟩ ++ txt B ++ ⟨#[93]⟩).toList) = true := by rw [e7]; exact z2 _
        have q8 : ((txt R2).toList == (a ++ txt B).toList) = true := by rw [e8]; exact z2 _
        have q9 := z2 (dotsT k)
        have q6 := z2 X
        have b1 : (⟨#[91]⟩ ++ a : ByteArray).size ≤ 2000 := by rw [ByteArray.size_append]; show 1 + _ ≤ _; omega
        have b2 : (⟨#[91]⟩ ++ a ++ ⟨#[124]⟩ : ByteArray).size ≤ 2000 := by rw [ByteArray.size_append, ByteArray.size_append]; show 1 + _ + 1 ≤ _; omega
        have b3 : (⟨#[91]⟩ ++ a ++ ⟨#[124]⟩ ++ txt B : ByteArray).size ≤ 2000 := by rw [ByteArray.size_append, ByteArray.size_append, ByteArray.size_append, txt_size]; show 1 + _ + 1 + _ ≤ _; omega
        have HQ := Lib.hid (And.intro q7 (And.intro q8 (And.intro q9 q6)))
        have HBB := Lib.hid (And.intro b1 (And.intro b2 b3))
        have HFit : Hid (∀ j : Nat, j ≤ 1000 → (dotsT j).length ≤ 2000) := fun j hj => by have := dots_len j; omega
        clear q7 q8 q9 q6 b1 b2 b3 e7 e8 z2 hi hlt hR hR2
        have hslot : (bl = true ∧ X = C) ∨ (bl = false ∧ X = B) := by
          cases bl with
          | true => exact .inl ⟨rfl, HX.out⟩
          | false => exact .inr ⟨rfl, HX.out⟩
        rcases hslot with ⟨rfl, rfl⟩ | ⟨rfl, rfl⟩
        all_goals (
          clear HX
          go_wp2_with fail
          go_loop [16, 17] (fun dv iv => ∃ j : Nat, j ≤ k ∧ dv = .string (txt (dotsT j)) ∧ iv = .int .i64 j) (fun _ iv => k - (intOf iv).toNat)
          case atStart => exact ⟨0, Nat.zero_le _, rfl, rfl⟩
          case round =>
            obtain ⟨j, hj, rfl, rfl⟩ := hrel
            by_cases hlt : j < k
            · have hjl : (j : Int) < (k : Int) := by omega
              have hfit := HFit.out j (by omega)
              have hsz : (txt (dotsT j)).size = (dotsT j).length := txt_size _
              by_cases hj0 : 0 < j
              · have h0 : (0 : Int) < (j : Int) := by omega
                have HN := Lib.hid (HLoop.out j hj0)
                have b1 : (txt (dotsT j) ++ ⟨#[32]⟩ : ByteArray).size ≤ 2001 := by rw [ByteArray.size_append, txt_size]; show _ + 1 ≤ _; omega
                clear HLoop
                go_wp2_with fail
                go_round
                case rel => exact ⟨j + 1, hlt, congrArg Value.string HN.out, by go_num⟩
                case measure => simp [intOf]; omega
              · have h0 : ¬ (0 : Int) < (j : Int) := by omega
                have hjz : j = 0 := by omega
                have HN : Hid (txt (dotsT j) ++ ⟨#[46]⟩ = txt (dotsT (j + 1))) := by
                  show _ = _
                  rw [hjz, dots_zero, dots_first]; rfl
                clear HLoop hjz
                go_wp2_with fail
                go_round
                case rel => exact ⟨j + 1, hlt, congrArg Value.string HN.out, by go_num⟩
                case measure => simp [intOf]; omega
            · have hjk : j = k := by omega
              subst hjk
              have hjl : ¬ (j : Int) < (j : Int) := by omega
              obtain ⟨q7, q8, q9, q6⟩ := HQ.out
              obtain ⟨b1, b2, b3⟩ := HBB.out
              clear HLoop HFit
              go_wp2_with fail
              refine (H1.out _ HC3.out).mono ?_
              rintro e w5 ⟨rfl, hb5⟩
              have HC5 := Lib.hid (HC3.out.on hb5)
              have HB5 := Lib.hid (HB3.out.on hb5)
              have HK5 := Lib.hid (HK3.out.on hb5)
              obtain ⟨t5, _⟩ := one_cell HK5.out.tail.head
              clear hb5 H1
              go_wp2_with fail
              refine (H2.out _ HC5.out).mono ?_
              rintro e w6 ⟨rfl, hb6⟩
              have HC6 := Lib.hid (HC5.out.on hb6)
              have HB6 := Lib.hid (HB5.out.on hb6)
              have HK6 := Lib.hid (HK5.out.on hb6)
              obtain ⟨t6, _⟩ := one_cell HK6.out.tail.head
              clear hb6 H2 t5
              go_wp2_with fail
              refine (H3.out _ HC6.out).mono ?_
              rintro e w7 ⟨rfl, hb7⟩
              have HC7 := Lib.hid (HC6.out.on hb7)
              have HB7 := Lib.hid (HB6.out.on hb7)
              have HK7 := Lib.hid (HK6.out.on hb7)
              obtain ⟨t7, _⟩ := one_cell HK7.out.tail.head
              clear hb7 H3 t6
              go_wp2_with fail
              refine (H4.out _ HC7.out).mono ?_
              rintro e w8 ⟨rfl, hb8⟩
              have HB8 := Lib.hid (HB7.out.on hb8)
              clear hb8 H4 t7
              go_wp2_with fail
              go_ret
              exact ⟨rfl, HB8.out⟩)
end Go.Proofs.YtbngoodjgijmgaaGreatDoor
