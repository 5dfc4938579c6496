/-
  What the document's own Take answers.
-/
import Derived.Deep.QuietTactic
import Derived.BigQuiet
import Derived.Test.YtllkibdpjpdbbaaDoorLRMath
import Derived.Test.YtllkibdpjpdbbaaDoorLRefU
namespace Go.Proofs.YtllkibdpjpdbbaaDoor
open Go.RowKit Go.Shelf
attribute [local go_sem] Oper.semAt_some


set_option maxRecDepth 100000 in
set_option maxHeartbeats 3000000 in
theorem rtake_any (s : ByteArray) (hs : s.size ≤ 100000) (w : World) : Calls Tryd.prog 15 #[.string s] w (TakePost s.data.toList w) := by
  obtain ⟨i0, hi, hz0, hz1, hz2⟩ := info_parts infoString
  have hsl := size_list s
  have HSL := Lib.hid hsl
  clear hsl
  go_enter Tryd.func15, Tryd.ntmps15
  go_wp2_with fail
  go_loop [5] (fun i => ∃ k : Nat, k ≤ s.size ∧ i = .int .i64 k ∧ Hid (∀ c ∈ s.data.toList.take k, nlB c = false)) (fun i => s.size - (intOf i).toNat)
  case atStart => exact ⟨0, Nat.zero_le _, rfl, (by intro c hc; simp at hc)⟩
  case round =>
    obtain ⟨k, hk, rfl, HNO⟩ := hrel
    by_cases hlt : k < s.size
    · have hlt' : k < s.data.toList.length := by rw [Array.length_toList]; exact hlt
      have hgk : s.data.toList[k] = s[k] := by rw [Array.getElem_toList]; rfl
      by_cases h10 : s[k].toNat = 10
      · have e1 : ((s[k].toNat : Int) != 10) = false := by simp; omega
        have e2 : ((k : Int) == (s.size : Int)) = false := by rw [beq_eq_false_iff_ne]; omega
        have hhd : headOf s.data.toList = s.data.toList.take k := head_at HNO.out (by omega) (.inr (by
          rw [List.getElem?_eq_getElem hlt', hgk]
          exact congrArg some (UInt8.toNat_inj.1 (by rw [h10]; rfl))))
        have hhl : (headOf s.data.toList).length = k := by rw [hhd, List.length_take]; omega
        have hne : (headOf s.data.toList).length ≠ s.data.toList.length := by rw [hhl, HSL.out]; omega
        have hBd : (s.extract 0 k).data.toList = headOf s.data.toList := by rw [Lib.extract_data, List.drop_zero, Nat.sub_zero, hhd]
        have hBz : (s.extract 0 k).size = k := by rw [ByteArray.size_extract]; omega
        have hTD : s.data.toList.drop (k + 1) = s.data.toList.drop ((headOf s.data.toList).length + 1) := by rw [hhl]
        have hrest : s.extract (k + 1) s.size = txt (s.data.toList.drop ((headOf s.data.toList).length + 1)) := by rw [extract_txt, take_rest, hhl]
        generalize hBe : s.extract 0 k = B at *
        have HB := Lib.hid hBd
        have HNE := Lib.hid hne
        have HHL := Lib.hid hhl
        have HRE := Lib.hid hrest
        have HBZ := Lib.hid hBz
        clear hhd hhl hne hBd hgk HNO hTD h10 hrest hBz
        by_cases h8 : k < 8
        · have e3 : decide ((k : Int) < 8) = true := by simp; omega
          have HT : Hid (takeOf s.data.toList = .form) := take_bad HNE.out (.inl (by rw [HHL.out]; exact h8))
          go_wp2_with fail
          go_ret3
          exact ⟨Below.refl _ _, .inl ⟨2, .inr (.inl ⟨HT.out, rfl⟩), rfl⟩⟩
        have e3 : decide ((k : Int) < 8) = false := by simp; omega
        by_cases h13 : 13000 ≤ k
        · have e4 : decide (13000 ≤ (k : Int)) = true := by simp; omega
          have HT : Hid (takeOf s.data.toList = .form) := take_bad HNE.out (.inr (.inl (by rw [HHL.out]; exact h13)))
          go_wp2_with fail
          go_ret3
          exact ⟨Below.refl _ _, .inl ⟨2, .inr (.inl ⟨HT.out, rfl⟩), rfl⟩⟩
        have e4 : decide (13000 ≤ (k : Int)) = false := by simp; omega
        obtain ⟨m, hkm⟩ : ∃ m, k = m + 8 := ⟨k - 8, by omega⟩
        have b3 : (k : Int) - 8 = (m : Int) := by omega
        have b4 : m ≤ B.size := by rw [HBZ.out]; omega
        have hDd : (B.extract m B.size).data.toList = (headOf s.data.toList).drop ((headOf s.data.toList).length - 8) := by
          rw [Lib.extract_to_end, HB.out, HHL.out, hkm, Nat.add_sub_cancel]
        have hDz : (B.extract m B.size).size = 8 := by rw [ByteArray.size_extract, HBZ.out]; omega
        have HKM := Lib.hid hkm
        have hdig := digits_any (B.extract m B.size) (by rw [hDz]; decide)
        rw [hDd] at hdig
        cases hh : allB hexB ((headOf s.data.toList).drop ((headOf s.data.toList).length - 8)) with
        | false =>
          have HT : Hid (takeOf s.data.toList = .form) := take_bad HNE.out (.inr (.inr hh))
          rw [hh] at hdig
          have HD := Lib.hid hdig
          generalize hDe : B.extract m B.size = D at *
          clear hdig hh hDd hkm hDz
          go_wp2_with fail
          refine (HD.out _).mono ?_
          rintro e w' ⟨rfl, rfl⟩
          go_wp2_with fail
          go_ret3
          exact ⟨Below.refl _ _, .inl ⟨2, .inr (.inl ⟨HT.out, rfl⟩), rfl⟩⟩
        | true =>
          have hgood : ¬ BadHead (headOf s.data.toList) := by
            rintro (h | h | h)
            · rw [HHL.out] at h; omega
            · rw [HHL.out] at h; omega
            · unfold allB at hh; rw [hh] at h; cases h
          rw [hh] at hdig
          have HD := Lib.hid hdig
          have HG := Lib.hid hgood
          have HDD := Lib.hid hDd
          generalize hDe : B.extract m B.size = D at *
          clear hdig hh hDd hgood hkm hDz
          go_wp2_with fail
          refine (HD.out _).mono ?_
          rintro e w' ⟨rfl, rfl⟩
          go_wp2_with fail
          go_loopw [7, 8, 9] (fun lv wv iv wr => ∃ (i : Nat) (xs : List (List UInt8)) (word : ByteArray), i ≤ m ∧ iv = .int .i64 i ∧ wv = .string word ∧ word.size ≤ i ∧ xs.length ≤ i ∧ Hid (pieces sp32 ((headOf s.data.toList).take i) = xs.map quoteOf ++ [word.data.toList]) ∧ wr.ownsRow w.heap.size 9 1 lv xs.length ((xs.map txt).map Value.string) ∧ Below w.heap.size w wr) (fun _ _ iv _ => m - (intOf iv).toNat)
          case atStart => exact ⟨0, [], ⟨#[]⟩, Nat.zero_le _, rfl, rfl, Nat.le_refl _, Nat.le_refl _, (by show _ = _; simp [pieces]), World.ownsRow_nil _ _ _ _, Below.refl _ _⟩
          case round =>
            obtain ⟨i, xs, word, him, rfl, rfl, hwz, hxi, HP, hown, hB⟩ := hrel
            have hsw := hB.size
            by_cases hil : i < m
            · have hiB : i < B.size := by rw [HBZ.out, HKM.out]; omega
              have hib : i < (headOf s.data.toList).length := by rw [HHL.out, HKM.out]; omega
              have hgb : (headOf s.data.toList)[i] = B[i] := by
                have : i < B.data.toList.length := by rw [HB.out]; exact hib
                have e : B.data.toList[i] = B[i] := by rw [Array.getElem_toList]; rfl
                rw [← e]
                congr 1
                exact HB.out.symm
              have htk : (headOf s.data.toList).take (i + 1) = (headOf s.data.toList).take i ++ [B[i]] := by rw [List.take_succ_eq_append_getElem hib, hgb]
              by_cases h32 : B[i].toNat = 32
              · have ec : B[i] = 32 := UInt8.toNat_inj.1 (by rw [h32]; rfl)
                have e5 : ((B[i].toNat : Int) != 32) = false := by simp; omega
                have hU := refUnquote_any word (by omega)
                unfold UnqPost at hU
                cases hu : unqO word.data.toList with
                | none =>
                  have HQ : Hid (∀ w, Calls Tryd.prog 33 #[.string word] w fun e w' => e = .returned (.tuple #[.string (txt []), .int .i64 2]) ∧ Below w.heap.size w w') := fun w => (hU w).mono fun e w' h => ⟨unq_not h.1 hu, h.2⟩
                  have HT : Hid (takeOf s.data.toList = .form) := by
                    refine take_noform HNE.out HG.out ?_
                    rw [HHL.out, HKM.out, Nat.add_sub_cancel]
                    have hcut : (headOf s.data.toList).take m = (headOf s.data.toList).take i ++ 32 :: ((headOf s.data.toList).take m).drop (i + 1) := by
                      have h1 : i < ((headOf s.data.toList).take m).length := by rw [List.length_take, HHL.out, HKM.out]; omega
                      have h2 : ((headOf s.data.toList).take m)[i] = 32 := by rw [List.getElem_take, hgb, ec]
                      have h3 := List.drop_eq_getElem_cons h1
                      rw [h2] at h3
                      rw [← h3]
                      have h4 : (headOf s.data.toList).take i = ((headOf s.data.toList).take m).take i := by rw [List.take_take]; congr 1; omega
                      rw [h4, List.take_append_drop]
                    have hpp : pieces sp32 ((headOf s.data.toList).take m) = xs.map quoteOf ++ word.data.toList :: pieces sp32 (((headOf s.data.toList).take m).drop (i + 1)) := by
                      conv => lhs; rw [hcut]
                      rw [pieces_sep sp32 _ 32 _ (by decide), HP.out]
                      simp
                    exact form_stuck hpp (pieces_ne _ _) hu
                  clear hU hu htk hgb
                  go_wp2_with fail
                  refine (HQ.out _).mono ?_
                  rintro e w2 ⟨rfl, hb2⟩
                  go_wp2_with fail
                  go_ret3
                  exact ⟨hB.trans (hb2.mono hsw), .inl ⟨2, .inr (.inl ⟨HT.out, rfl⟩), rfl⟩⟩
                | some t =>
                  have HQ : Hid (∀ w, Calls Tryd.prog 33 #[.string word] w fun e w' => e = .returned (.tuple #[.string (txt t), .int .i64 0]) ∧ Below w.heap.size w w') := fun w => (hU w).mono fun e w' h => ⟨unq_yes h.1 hu, h.2⟩
                  have HP2 : Hid (pieces sp32 ((headOf s.data.toList).take (i + 1)) = (xs ++ [t]).map quoteOf ++ [(⟨#[]⟩ : ByteArray).data.toList]) := by
                    show _ = _
                    rw [htk, ec, pieces_blank, HP.out, List.map_append, List.map_cons, List.map_nil, unq_some hu]
                  have hml : xs.length + 1 ≤ maxLen := by unfold maxLen; omega
                  clear hU hu htk hgb ec
                  go_wp2_with fail
                  refine (HQ.out _).mono ?_
                  rintro e w2 ⟨rfl, hb2⟩
                  have hB2 := hB.trans (hb2.mono hsw)
                  have hsw2 := hB2.size
                  have hown2 := ownsRow_below hown hb2
                  go_wp2_with (at_builtin; refine wpList_append_own _ rfl _ _ 22 rfl w.heap.size 9 i0 (.string ⟨#[]⟩) 1 16 Tryd.underlying22 hi hz0 hz1 hz2 rfl (by decide) _ _ _ rfl (hown2.alloc _) ⟨w2.heap.size, 0, none⟩ 1 1 [.string (txt t)] rfl rfl (cell_one_new _ _ _) (by simp [Value.oneCell']) hml (by omega) (by simp; omega) ?_; intro v' w3 hown' hgrow _)
                  have hB3 := (hB2.alloc hsw2 (.cells #[.string (txt t)] 9)).grown hgrow (by simp; omega) (fun j ej => (hown2.lt j ej).1)
                  go_roundw
                  case rel => exact ⟨i + 1, xs ++ [t], ⟨#[]⟩, hil, by go_num, rfl, Nat.zero_le _, by simp; omega, HP2.out, by simpa using hown', hB3⟩
                  case measure => simp [intOf]; omega
              · have e5 : ((B[i].toNat : Int) != 32) = true := by simp; omega
                have hsp : sp32 B[i] = false := by simp [sp32]; exact h32
                have hx1 := extract_one B i hiB
                have HP2 : Hid (pieces sp32 ((headOf s.data.toList).take (i + 1)) = xs.map quoteOf ++ [(word ++ B.extract i (i + 1)).data.toList]) := by
                  show _ = _
                  rw [htk, pieces_more _ _ _ _ HP.out hsp, ByteArray.data_append, Array.toList_append, hx1, txt_data]
                have hz : (word ++ B.extract i (i + 1)).size ≤ i + 1 := by rw [ByteArray.size_append, hx1, txt_size]; simp; omega
                have hcat : ¬ 9223372036854775807 < word.size + (min (i + 1) B.size - i) := by omega
                have HZ := Lib.hid hz
                clear htk hgb hsp hx1 hz
                go_wp2_with fail
                go_roundw
                case rel => exact ⟨i + 1, xs, _, hil, by go_num, rfl, HZ.out, by omega, HP2.out, hown, hB⟩
                case measure => simp [intOf]; omega
            · obtain rfl : i = m := by omega
              obtain ⟨vo, vc, rfl⟩ := ownsRow_shape hown
              by_cases hword : word.data.toList = []
              · have e6 : word.toList.isEmpty = true := by rw [Lib.toList_data, hword]; rfl
                have hwl := hword
                by_cases hx0 : xs.length = 0
                · have e7 : ((xs.length : Int) == 0) = true := by rw [hx0]; rfl
                  have HT : Hid (takeOf s.data.toList = .form) := take_noform HNE.out HG.out (by rw [HHL.out, HKM.out, Nat.add_sub_cancel]; exact form_broken HP.out (.inr (.inl hx0)))
                  clear hword hwl
                  go_wp2_with fail
                  go_ret3
                  exact ⟨hB, .inl ⟨2, .inr (.inl ⟨HT.out, rfl⟩), rfl⟩⟩
                have e7 : ((xs.length : Int) == 0) = false := by rw [beq_eq_false_iff_ne]; omega
                by_cases hx40 : 40 < xs.length
                · have e8 : decide (40 < (xs.length : Int)) = true := by simp; omega
                  have HT : Hid (takeOf s.data.toList = .form) := take_noform HNE.out HG.out (by rw [HHL.out, HKM.out, Nat.add_sub_cancel]; exact form_broken HP.out (.inr (.inr hx40)))
                  clear hword hwl
                  go_wp2_with fail
                  go_ret3
                  exact ⟨hB, .inl ⟨2, .inr (.inl ⟨HT.out, rfl⟩), rfl⟩⟩
                have e8 : decide (40 < (xs.length : Int)) = false := by simp; omega
                have hform : formOf ((headOf s.data.toList).take ((headOf s.data.toList).length - 8)) = some xs := by
                  rw [HHL.out, HKM.out, Nat.add_sub_cancel]
                  refine form_whole ?_ (by omega) (by omega)
                  rw [HP.out, hword]
                have htf := take_form HNE.out HG.out hform
                have hEd : (B.extract 0 i).data.toList = (headOf s.data.toList).take ((headOf s.data.toList).length - 8) := by
                  rw [Lib.extract_data, List.drop_zero, Nat.sub_zero, HB.out, HHL.out, HKM.out, Nat.add_sub_cancel]
                have hEz : (B.extract 0 i).size ≤ maxLen := by rw [ByteArray.size_extract]; unfold maxLen; omega
                have hO := fun w => rof_any (B.extract 0 i) hEz w
                have hH := rhex_any (addN 1 (B.extract 0 i).data.toList) (add_lt _ _)
                have hse : hexN (addN 1 (B.extract 0 i).data.toList) = sealOf ((headOf s.data.toList).take ((headOf s.data.toList).length - 8)) := by rw [hEd]; rfl
                rw [hse] at hH
                rw [← HDD.out] at htf
                have hqd : (!(txt (sealOf ((headOf s.data.toList).take ((headOf s.data.toList).length - 8)))).toList == D.toList) = !decide (sealOf ((headOf s.data.toList).take ((headOf s.data.toList).length - 8)) = D.data.toList) := by
                  rw [str_eq]
                  congr 1
                  rw [decide_eq_decide]
                  exact ⟨fun e => by rw [← e, txt_data], fun e => by rw [e, txt_toList]⟩
                have HO := Lib.hid hO
                have HH := Lib.hid hH
                have HQD := Lib.hid hqd
                have HTF := Lib.hid htf
                have hk1 : k + 1 ≤ s.size := by omega
                clear hO hH hqd htf hEd hEz hse hform hword hwl hx0 hx40
                generalize addN 1 (B.extract 0 i).data.toList = num at HO HH
                generalize sealOf ((headOf s.data.toList).take ((headOf s.data.toList).length - 8)) = sl at HH HQD HTF
                generalize hts : txt sl = ts at HH HQD
                have HTS := Lib.hid hts
                clear hts
                by_cases hq : sl = D.data.toList
                · have e9 : (!ts.toList == D.toList) = false := by rw [HQD.out, decide_eq_true hq]; rfl
                  have HT := HTF.out
                  rw [if_pos hq] at HT
                  have HT2 := Lib.hid HT
                  clear hq HT HQD HTF
                  go_wp2_with fail
                  go_quiet (first | (go_at_call 28; exact still_same (HO.out _)) | (go_at_call 27; exact still_same (HH.out _)))
                  go_wp2_with fail
                  have hB9 := below_drewN hB nq
                  have hown9 : (wr.drewN nq).ownsRow w.heap.size 9 1 (.slice vo xs.length vc) xs.length ((xs.map txt).map Value.string) := hown
                  clear hB hown hsw
                  generalize wr.drewN nq = wz at *
                  go_quiet (fail)
                  go_wp2_with fail
                  go_ret3
                  exact ⟨below_drewN hB9 nq, .inr ⟨xs, _, _, HT2.out, by rw [← HRE.out]; rfl, hown9⟩⟩
                · have e9 : (!ts.toList == D.toList) = true := by rw [HQD.out, decide_eq_false hq]; rfl
                  have HT := HTF.out
                  rw [if_neg hq] at HT
                  have HT2 := Lib.hid HT
                  clear hq HT HQD HTF
                  go_wp2_with fail
                  go_quiet (first | (go_at_call 28; exact still_same (HO.out _)) | (go_at_call 27; exact still_same (HH.out _)))
                  go_wp2_with fail
                  go_ret3
                  exact ⟨below_drewN hB nq, .inl ⟨13, .inr (.inr ⟨HT2.out, rfl⟩), rfl⟩⟩
              · have e6 : word.toList.isEmpty = false := by rw [Lib.toList_data]; simpa using hword
                have HT : Hid (takeOf s.data.toList = .form) := take_noform HNE.out HG.out (by rw [HHL.out, HKM.out, Nat.add_sub_cancel]; exact form_broken HP.out (.inl hword))
                clear hword
                go_wp2_with fail
                go_ret3
                exact ⟨hB, .inl ⟨2, .inr (.inl ⟨HT.out, rfl⟩), rfl⟩⟩
      · have e1 : ((s[k].toNat : Int) != 10) = true := by simp; omega
        have HN : Hid (∀ c ∈ s.data.toList.take (k + 1), nlB c = false) := no_next HNO.out hlt' (by rw [hgk]; simp [nlB]; exact h10)
        clear hgk h10
        go_wp2_with fail
        go_round
        case rel => exact ⟨k + 1, hlt, by go_num, HN⟩
        case measure => simp [intOf]; omega
    · obtain rfl : k = s.size := by omega
      have HT : Hid (takeOf s.data.toList = .short) := by
        refine take_short ?_
        rw [head_at HNO.out (by rw [HSL.out]; exact Nat.le_refl _) (.inl HSL.out.symm), List.length_take, HSL.out, Nat.min_self]
      have e2 : ((s.size : Int) == (s.size : Int)) = true := by simp
      clear HNO
      go_wp2_with fail
      go_ret3
      exact ⟨Below.refl _ _, .inl ⟨14, .inl ⟨HT.out, rfl⟩, rfl⟩⟩

end Go.Proofs.YtllkibdpjpdbbaaDoor
