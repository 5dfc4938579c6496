/-
  What the document's own digits answers; plain words on the document's own Take.
  What the document's own Take answers.
  What the document's own Scan answers.
  What the document's own Put answers.
-/
import Derived.Deep.QuietTactic
import Derived.BigQuiet
import Derived.Test.YtchnbnmajagpjaaGreatDoorBM
import Derived.Test.YtchnbnmajagpjaaGreatDoorBL
namespace Go.Proofs.YtchnbnmajagpjaaGreatDoor
open Go.RowKit Go.Shelf


theorem hex_cases (c : UInt8) : (hexB c = true ∧ decide (48 ≤ (c.toNat : Int)) = true ∧ decide ((c.toNat : Int) ≤ 57) = true) ∨ (hexB c = false ∧ decide (48 ≤ (c.toNat : Int)) = false ∧ decide (97 ≤ (c.toNat : Int)) = false) ∨
    (hexB c = false ∧ decide (48 ≤ (c.toNat : Int)) = true ∧ decide ((c.toNat : Int) ≤ 57) = false ∧ decide (97 ≤ (c.toNat : Int)) = false) ∨ (hexB c = true ∧ decide (48 ≤ (c.toNat : Int)) = true ∧ decide ((c.toNat : Int) ≤ 57) = false ∧ decide (97 ≤ (c.toNat : Int)) = true ∧ decide ((c.toNat : Int) ≤ 102) = true) ∨
    (hexB c = false ∧ decide (48 ≤ (c.toNat : Int)) = true ∧ decide ((c.toNat : Int) ≤ 57) = false ∧ decide (97 ≤ (c.toNat : Int)) = true ∧ decide ((c.toNat : Int) ≤ 102) = false) := by
  simp only [hexB, decide_eq_true_eq, decide_eq_false_iff_not]
  omega

set_option maxRecDepth 100000 in
set_option maxHeartbeats 4000000 in
theorem digits_any (s : ByteArray) (hs : s.size ≤ maxLen) (w : World) : Calls Tryz.prog 118 #[.string s] w fun e w' => e = .returned (.bool (allB hexB s.data.toList)) ∧ w = w' := by
  unfold maxLen at hs
  go_enter Tryz.func118, Tryz.ntmps118
  go_wp2
  go_loop [3] (fun i => ∃ k : Nat, k ≤ s.size ∧ i = .int .i64 k ∧ Hid (allB hexB (s.data.toList.take k) = true)) (fun i => s.size - (intOf i).toNat)
  case atStart => exact ⟨0, Nat.zero_le _, rfl, by show _ = _; simp [allB]⟩
  case round =>
    obtain ⟨k, hk, rfl, HA⟩ := hrel
    by_cases hlt : k < s.size
    · have hlt' : k < s.data.toList.length := by rw [Array.length_toList]; exact hlt
      have hgk : s.data.toList[k] = s[k] := by rw [Array.getElem_toList]; rfl
      have hyes : hexB s[k] = true → allB hexB (s.data.toList.take (k + 1)) = true := fun h => all_take HA.out hlt' (by rw [hgk]; exact h)
      have hno : hexB s[k] = false → allB hexB s.data.toList = false := fun h => all_not (p := hexB) hlt' (by rw [hgk]; exact h)
      have HY := Lib.hid hyes
      have HN := Lib.hid hno
      clear hyes hno hgk
      rcases hex_cases s[k] with ⟨h, t1, t2⟩ | ⟨h, t1, t2⟩ | ⟨h, t1, t2, t3⟩ | ⟨h, t1, t2, t3, t4⟩ | ⟨h, t1, t2, t3, t4⟩
      · have HK := Lib.hid (HY.out h); clear h
        go_wp2
        go_round
        case rel => exact ⟨k + 1, hlt, by go_num, HK⟩
        case measure => simp [intOf]; omega
      · have HK := Lib.hid (HN.out h); clear h
        go_wp2
        go_ret
        exact ⟨by rw [HK.out]; rfl, rfl⟩
      · have HK := Lib.hid (HN.out h); clear h
        go_wp2
        go_ret
        exact ⟨by rw [HK.out]; rfl, rfl⟩
      · have HK := Lib.hid (HY.out h); clear h
        go_wp2
        go_round
        case rel => exact ⟨k + 1, hlt, by go_num, HK⟩
        case measure => simp [intOf]; omega
      · have HK := Lib.hid (HN.out h); clear h
        go_wp2
        go_ret
        exact ⟨by rw [HK.out]; rfl, rfl⟩
    · have HK : Hid (allB hexB s.data.toList = true) := by
        have := HA.out
        rw [List.take_of_length_le (by rw [size_list]; omega)] at this
        exact this
      go_wp2
      go_ret
      exact ⟨by rw [HK.out]; rfl, rfl⟩

theorem head_at {l : List UInt8} {k : Nat} (h : ∀ c ∈ l.take k, nlB c = false) (hk : k ≤ l.length) (he : k = l.length ∨ l[k]? = some 10) : headOf l = l.take k := by
  rcases he with rfl | he
  · rw [List.take_length] at h ⊢; exact head_none l h
  · have hlt : k < l.length := (List.getElem?_eq_some_iff.1 he).1
    have e : l = l.take k ++ 10 :: l.drop (k + 1) := by
      have : l[k] = 10 := by rw [List.getElem?_eq_getElem hlt] at he; exact Option.some.inj he
      rw [← this, ← List.drop_eq_getElem_cons hlt, List.take_append_drop]
    conv => lhs; rw [e]
    exact head_cut _ _ h
theorem no_next {p : UInt8 → Bool} {l : List UInt8} {k : Nat} (h : ∀ c ∈ l.take k, p c = false) (hk : k < l.length) (hc : p l[k] = false) : ∀ c ∈ l.take (k + 1), p c = false := by
  intro c hc'
  rw [List.take_succ_eq_append_getElem hk] at hc'
  rcases List.mem_append.1 hc' with h1 | h1
  · exact h c h1
  · simp at h1; rw [h1]; exact hc

/-- One byte more that is no blank; one blank more. -/
theorem pieces_more (l : List UInt8) (a : List (List UInt8)) (b : List UInt8) (c : UInt8) (h : pieces sp32 l = a ++ [b]) (hc : sp32 c = false) : pieces sp32 (l ++ [c]) = a ++ [b ++ [c]] := by
  induction l generalizing a b with
  | nil =>
    simp only [pieces] at h
    have ha : a = [] ∧ b = [] := by
      cases a with
      | nil => simpa using h.symm
      | cons x r =>
        have := congrArg List.length h
        simp at this
    obtain ⟨rfl, rfl⟩ := ha
    simp [pieces, hc]
  | cons x r ih =>
    simp only [List.cons_append, pieces] at h ⊢
    split
    · rename_i hx
      rw [hx] at h
      simp only [if_true] at h
      cases a with
      | nil =>
        have := congrArg List.length h
        have h2 := List.length_pos_iff.2 (pieces_ne sp32 r)
        simp only [List.length_cons, List.nil_append, List.length_nil] at this; omega
      | cons y t =>
        simp only [List.cons_append, List.cons.injEq] at h ⊢
        exact ⟨h.1, ih t b h.2⟩
    · rename_i hx
      have hx' : sp32 x = false := by simpa using hx
      rw [hx'] at h
      simp only [Bool.false_eq_true, if_false] at h
      cases hp : pieces sp32 r with
      | nil => exact absurd hp (pieces_ne _ _)
      | cons y t =>
        rw [hp] at h
        simp only at h
        cases a with
        | nil =>
          simp only [List.nil_append, List.cons.injEq] at h
          obtain ⟨h1, rfl⟩ := h
          rw [ih [] y (by rw [hp]; rfl)]
          simp [← h1]
        | cons z u =>
          simp only [List.cons_append, List.cons.injEq] at h
          obtain ⟨h1, h2⟩ := h
          rw [ih (y :: u) b (by rw [hp, h2]; rfl)]
          simp [← h1]
theorem pieces_blank (l : List UInt8) : pieces sp32 (l ++ [32]) = pieces sp32 l ++ [[]] := pieces_sep sp32 l 32 [] (by decide)

theorem mapM_append_none {a : List (List UInt8)} {x : List UInt8} {r : List (List UInt8)} (h : unqO x = none) : (a ++ x :: r).mapM unqO = none := mapM_none (x := x) (by simp) h
theorem form_stuck {b : List UInt8} {a : List (List UInt8)} {x : List UInt8} {r : List (List UInt8)} (hp : pieces sp32 b = a ++ x :: r) (hr : r ≠ []) (h : unqO x = none) : formOf b = none := by
  unfold formOf
  rw [hp]
  split
  · have : (a ++ x :: r).dropLast = a ++ x :: r.dropLast := by
      rw [List.dropLast_append_of_ne_nil (by simp)]
      congr 1
      cases r with
      | nil => exact absurd rfl hr
      | cons y t => rfl
    rw [this]
    exact mapM_append_none h
  · rfl
theorem form_whole {b : List UInt8} {xs : List (List UInt8)} (hp : pieces sp32 b = xs.map quoteOf ++ [[]]) (h1 : 1 ≤ xs.length) (h2 : xs.length ≤ 40) : formOf b = some xs := by
  unfold formOf
  rw [hp, if_pos ⟨by simp, by simp; omega, by simp; omega⟩, List.dropLast_concat, map_unq]
theorem form_broken {b : List UInt8} {xs : List (List UInt8)} {word : List UInt8} (hp : pieces sp32 b = xs.map quoteOf ++ [word]) (h : word ≠ [] ∨ xs.length = 0 ∨ 40 < xs.length) : formOf b = none := by
  unfold formOf
  rw [hp, if_neg]
  rintro ⟨h1, h2, h3⟩
  simp at h1 h2 h3
  rcases h with h | h | h
  · exact h h1
  · omega
  · omega

end Go.Proofs.YtchnbnmajagpjaaGreatDoor

namespace Go.Proofs.YtchnbnmajagpjaaGreatDoor
open Go.RowKit Go.Shelf
attribute [local go_sem] Oper.semAt_some


set_option maxRecDepth 100000 in
set_option maxHeartbeats 3000000 in
theorem rtake_any (s : ByteArray) (hs : s.size ≤ 100000) (w : World) : Calls Tryz.prog 105 #[.string s] w (TakePost s.data.toList w) := by
  obtain ⟨i0, hi, hz0, hz1, hz2⟩ := info_parts infoString
  have hsl := size_list s
  have HSL := Lib.hid hsl
  clear hsl
  go_enter Tryz.func105, Tryz.ntmps105
  go_wp2_with fail
  go_loop [5] (fun i => ∃ k : Nat, k ≤ s.size ∧ i = .int .i64 k ∧ Hid (∀ c ∈ s.data.toList.take k, nlB c = false)) (fun i => s.size - (intOf i).toNat)
  case atStart => exact ⟨0, Nat.zero_le _, rfl, (by intro c hc; simp at hc)⟩
  case round =>
    obtain ⟨k, hk, rfl, HNO⟩ := hrel
    by_cases hlt : k < s.size
    · have hlt' : k < s.data.toList.length := by rw [Array.length_toList]; exact hlt
      have hgk : s.data.toList[k] = s[k] := by rw [Array.getElem_toList]; rfl
      by_cases h10 : s[k].toNat = 10
      · have e1 : ((s[k].toNat : Int) != 10) = false := by simp; omega
        have e2 : ((k : Int) == (s.size : Int)) = false := by rw [beq_eq_false_iff_ne]; omega
        have hhd : headOf s.data.toList = s.data.toList.take k := head_at HNO.out (by omega) (.inr (by
          rw [List.getElem?_eq_getElem hlt', hgk]
          exact congrArg some (UInt8.toNat_inj.1 (by rw [h10]; rfl))))
        have hhl : (headOf s.data.toList).length = k := by rw [hhd, List.length_take]; omega
        have hne : (headOf s.data.toList).length ≠ s.data.toList.length := by rw [hhl, HSL.out]; omega
        have hBd : (s.extract 0 k).data.toList = headOf s.data.toList := by rw [Lib.extract_data, List.drop_zero, Nat.sub_zero, hhd]
        have hBz : (s.extract 0 k).size = k := by rw [ByteArray.size_extract]; omega
        have hTD : s.data.toList.drop (k + 1) = s.data.toList.drop ((headOf s.data.toList).length + 1) := by rw [hhl]
        have hrest : s.extract (k + 1) s.size = txt (s.data.toList.drop ((headOf s.data.toList).length + 1)) := by rw [extract_txt, take_rest, hhl]
        generalize hBe : s.extract 0 k = B at *
        have HB := Lib.hid hBd
        have HNE := Lib.hid hne
        have HHL := Lib.hid hhl
        have HRE := Lib.hid hrest
        have HBZ := Lib.hid hBz
        clear hhd hhl hne hBd hgk HNO hTD h10 hrest hBz
        by_cases h8 : k < 8
        · have e3 : decide ((k : Int) < 8) = true := by simp; omega
          have HT : Hid (takeOf s.data.toList = .form) := take_bad HNE.out (.inl (by rw [HHL.out]; exact h8))
          go_wp2_with fail
          go_ret3
          exact ⟨Below.refl _ _, .inl ⟨2, .inr (.inl ⟨HT.out, rfl⟩), rfl⟩⟩
        have e3 : decide ((k : Int) < 8) = false := by simp; omega
        by_cases h13 : 13000 ≤ k
        · have e4 : decide (13000 ≤ (k : Int)) = true := by simp; omega
          have HT : Hid (takeOf s.data.toList = .form) := take_bad HNE.out (.inr (.inl (by rw [HHL.out]; exact h13)))
          go_wp2_with fail
          go_ret3
          exact ⟨Below.refl _ _, .inl ⟨2, .inr (.inl ⟨HT.out, rfl⟩), rfl⟩⟩
        have e4 : decide (13000 ≤ (k : Int)) = false := by simp; omega
        obtain ⟨m, hkm⟩ : ∃ m, k = m + 8 := ⟨k - 8, by omega⟩
        have b3 : (k : Int) - 8 = (m : Int) := by omega
        have b4 : m ≤ B.size := by rw [HBZ.out]; omega
        have hDd : (B.extract m B.size).data.toList = (headOf s.data.toList).drop ((headOf s.data.toList).length - 8) := by
          rw [Lib.extract_to_end, HB.out, HHL.out, hkm, Nat.add_sub_cancel]
        have hDz : (B.extract m B.size).size = 8 := by rw [ByteArray.size_extract, HBZ.out]; omega
        have HKM := Lib.hid hkm
        have hdig := digits_any (B.extract m B.size) (by rw [hDz]; decide)
        rw [hDd] at hdig
        cases hh : allB hexB ((headOf s.data.toList).drop ((headOf s.data.toList).length - 8)) with
        | false =>
          have HT : Hid (takeOf s.data.toList = .form) := take_bad HNE.out (.inr (.inr hh))
          rw [hh] at hdig
          have HD := Lib.hid hdig
          generalize hDe : B.extract m B.size = D at *
          clear hdig hh hDd hkm hDz
          go_wp2_with fail
          refine (HD.out _).mono ?_
          rintro e w' ⟨rfl, rfl⟩
          go_wp2_with fail
          go_ret3
          exact ⟨Below.refl _ _, .inl ⟨2, .inr (.inl ⟨HT.out, rfl⟩), rfl⟩⟩
        | true =>
          have hgood : ¬ BadHead (headOf s.data.toList) := by
            rintro (h | h | h)
            · rw [HHL.out] at h; omega
            · rw [HHL.out] at h; omega
            · unfold allB at hh; rw [hh] at h; cases h
          rw [hh] at hdig
          have HD := Lib.hid hdig
          have HG := Lib.hid hgood
          have HDD := Lib.hid hDd
          generalize hDe : B.extract m B.size = D at *
          clear hdig hh hDd hgood hkm hDz
          go_wp2_with fail
          refine (HD.out _).mono ?_
          rintro e w' ⟨rfl, rfl⟩
          go_wp2_with fail
          go_loopw [7, 8, 9] (fun lv wv iv wr => ∃ (i : Nat) (xs : List (List UInt8)) (word : ByteArray), i ≤ m ∧ iv = .int .i64 i ∧ wv = .string word ∧ word.size ≤ i ∧ xs.length ≤ i ∧ Hid (pieces sp32 ((headOf s.data.toList).take i) = xs.map quoteOf ++ [word.data.toList]) ∧ wr.ownsRow w.heap.size 9 1 lv xs.length ((xs.map txt).map Value.string) ∧ Below w.heap.size w wr) (fun _ _ iv _ => m - (intOf iv).toNat)
          case atStart => exact ⟨0, [], ⟨#[]⟩, Nat.zero_le _, rfl, rfl, Nat.le_refl _, Nat.le_refl _, (by show _ = _; simp [pieces]), World.ownsRow_nil _ _ _ _, Below.refl _ _⟩
          case round =>
            obtain ⟨i, xs, word, him, rfl, rfl, hwz, hxi, HP, hown, hB⟩ := hrel
            have hsw := hB.size
            by_cases hil : i < m
            · have hiB : i < B.size := by rw [HBZ.out, HKM.out]; omega
              have hib : i < (headOf s.data.toList).length := by rw [HHL.out, HKM.out]; omega
              have hgb : (headOf s.data.toList)[i] = B[i] := by
                have : i < B.data.toList.length := by rw [HB.out]; exact hib
                have e : B.data.toList[i] = B[i] := by rw [Array.getElem_toList]; rfl
                rw [← e]
                congr 1
                exact HB.out.symm
              have htk : (headOf s.data.toList).take (i + 1) = (headOf s.data.toList).take i ++ [B[i]] := by rw [List.take_succ_eq_append_getElem hib, hgb]
              by_cases h32 : B[i].toNat = 32
              · have ec : B[i] = 32 := UInt8.toNat_inj.1 (by rw [h32]; rfl)
                have e5 : ((B[i].toNat : Int) != 32) = false := by simp; omega
                have hU := refUnquote_any word (by omega)
                unfold UnqPost at hU
                cases hu : unqO word.data.toList with
                | none =>
                  have HQ : Hid (∀ w, Calls Tryz.prog 119 #[.string word] w fun e w' => e = .returned (.tuple #[.string (txt []), .int .i64 2]) ∧ Below w.heap.size w w') := fun w => (hU w).mono fun e w' h => ⟨unq_not h.1 hu, h.2⟩
                  have HT : Hid (takeOf s.data.toList = .form) := by
                    refine take_noform HNE.out HG.out ?_
                    rw [HHL.out, HKM.out, Nat.add_sub_cancel]
                    have hcut : (headOf s.data.toList).take m = (headOf s.data.toList).take i ++ 32 :: ((headOf s.data.toList).take m).drop (i + 1) := by
                      have h1 : i < ((headOf s.data.toList).take m).length := by rw [List.length_take, HHL.out, HKM.out]; omega
                      have h2 : ((headOf s.data.toList).take m)[i] = 32 := by rw [List.getElem_take, hgb, ec]
                      have h3 := List.drop_eq_getElem_cons h1
                      rw [h2] at h3
                      rw [← h3]
                      have h4 : (headOf s.data.toList).take i = ((headOf s.data.toList).take m).take i := by rw [List.take_take]; congr 1; omega
                      rw [h4, List.take_append_drop]
                    have hpp : pieces sp32 ((headOf s.data.toList).take m) = xs.map quoteOf ++ word.data.toList :: pieces sp32 (((headOf s.data.toList).take m).drop (i + 1)) := by
                      conv => lhs; rw [hcut]
                      rw [pieces_sep sp32 _ 32 _ (by decide), HP.out]
                      simp
                    exact form_stuck hpp (pieces_ne _ _) hu
                  clear hU hu htk hgb
                  go_wp2_with fail
                  refine (HQ.out _).mono ?_
                  rintro e w2 ⟨rfl, hb2⟩
                  go_wp2_with fail
                  go_ret3
                  exact ⟨hB.trans (hb2.mono hsw), .inl ⟨2, .inr (.inl ⟨HT.out, rfl⟩), rfl⟩⟩
                | some t =>
                  have HQ : Hid (∀ w, Calls Tryz.prog 119 #[.string word] w fun e w' => e = .returned (.tuple #[.string (txt t), .int .i64 0]) ∧ Below w.heap.size w w') := fun w => (hU w).mono fun e w' h => ⟨unq_yes h.1 hu, h.2⟩
                  have HP2 : Hid (pieces sp32 ((headOf s.data.toList).take (i + 1)) = (xs ++ [t]).map quoteOf ++ [(⟨#[]⟩ : ByteArray).data.toList]) := by
                    show _ = _
                    rw [htk, ec, pieces_blank, HP.out, List.map_append, List.map_cons, List.map_nil, unq_some hu]
                  have hml : xs.length + 1 ≤ maxLen := by unfold maxLen; omega
                  clear hU hu htk hgb ec
                  go_wp2_with fail
                  refine (HQ.out _).mono ?_
                  rintro e w2 ⟨rfl, hb2⟩
                  have hB2 := hB.trans (hb2.mono hsw)
                  have hsw2 := hB2.size
                  have hown2 := ownsRow_below hown hb2
                  go_wp2_with (at_builtin; refine wpList_append_own _ rfl _ _ 39 rfl w.heap.size 9 i0 (.string ⟨#[]⟩) 1 16 Tryz.underlying39 hi hz0 hz1 hz2 rfl (by decide) _ _ _ rfl (hown2.alloc _) ⟨w2.heap.size, 0, none⟩ 1 1 [.string (txt t)] rfl rfl (cell_one_new _ _ _) (by simp [Value.oneCell']) hml (by omega) (by simp; omega) ?_; intro v' w3 hown' hgrow _)
                  have hB3 := (hB2.alloc hsw2 (.cells #[.string (txt t)] 9)).grown hgrow (by simp; omega) (fun j ej => (hown2.lt j ej).1)
                  go_roundw
                  case rel => exact ⟨i + 1, xs ++ [t], ⟨#[]⟩, hil, by go_num, rfl, Nat.zero_le _, by simp; omega, HP2.out, by simpa using hown', hB3⟩
                  case measure => simp [intOf]; omega
              · have e5 : ((B[i].toNat : Int) != 32) = true := by simp; omega
                have hsp : sp32 B[i] = false := by simp [sp32]; exact h32
                have hx1 := extract_one B i hiB
                have HP2 : Hid (pieces sp32 ((headOf s.data.toList).take (i + 1)) = xs.map quoteOf ++ [(word ++ B.extract i (i + 1)).data.toList]) := by
                  show _ = _
                  rw [htk, pieces_more _ _ _ _ HP.out hsp, ByteArray.data_append, Array.toList_append, hx1, txt_data]
                have hz : (word ++ B.extract i (i + 1)).size ≤ i + 1 := by rw [ByteArray.size_append, hx1, txt_size]; simp; omega
                have hcat : ¬ 9223372036854775807 < word.size + (min (i + 1) B.size - i) := by omega
                have HZ := Lib.hid hz
                clear htk hgb hsp hx1 hz
                go_wp2_with fail
                go_roundw
                case rel => exact ⟨i + 1, xs, _, hil, by go_num, rfl, HZ.out, by omega, HP2.out, hown, hB⟩
                case measure => simp [intOf]; omega
            · obtain rfl : i = m := by omega
              obtain ⟨vo, vc, rfl⟩ := ownsRow_shape hown
              by_cases hword : word.data.toList = []
              · have e6 : word.toList.isEmpty = true := by rw [Lib.toList_data, hword]; rfl
                have hwl := hword
                by_cases hx0 : xs.length = 0
                · have e7 : ((xs.length : Int) == 0) = true := by rw [hx0]; rfl
                  have HT : Hid (takeOf s.data.toList = .form) := take_noform HNE.out HG.out (by rw [HHL.out, HKM.out, Nat.add_sub_cancel]; exact form_broken HP.out (.inr (.inl hx0)))
                  clear hword hwl
                  go_wp2_with fail
                  go_ret3
                  exact ⟨hB, .inl ⟨2, .inr (.inl ⟨HT.out, rfl⟩), rfl⟩⟩
                have e7 : ((xs.length : Int) == 0) = false := by rw [beq_eq_false_iff_ne]; omega
                by_cases hx40 : 40 < xs.length
                · have e8 : decide (40 < (xs.length : Int)) = true := by simp; omega
                  have HT : Hid (takeOf s.data.toList = .form) := take_noform HNE.out HG.out (by rw [HHL.out, HKM.out, Nat.add_sub_cancel]; exact form_broken HP.out (.inr (.inr hx40)))
                  clear hword hwl
                  go_wp2_with fail
                  go_ret3
                  exact ⟨hB, .inl ⟨2, .inr (.inl ⟨HT.out, rfl⟩), rfl⟩⟩
                have e8 : decide (40 < (xs.length : Int)) = false := by simp; omega
                have hform : formOf ((headOf s.data.toList).take ((headOf s.data.toList).length - 8)) = some xs := by
                  rw [HHL.out, HKM.out, Nat.add_sub_cancel]
                  refine form_whole ?_ (by omega) (by omega)
                  rw [HP.out, hword]
                have htf := take_form HNE.out HG.out hform
                have hEd : (B.extract 0 i).data.toList = (headOf s.data.toList).take ((headOf s.data.toList).length - 8) := by
                  rw [Lib.extract_data, List.drop_zero, Nat.sub_zero, HB.out, HHL.out, HKM.out, Nat.add_sub_cancel]
                have hEz : (B.extract 0 i).size ≤ maxLen := by rw [ByteArray.size_extract]; unfold maxLen; omega
                have hO := fun w => rof_any (B.extract 0 i) hEz w
                have hH := rhex_any (addN 1 (B.extract 0 i).data.toList) (add_lt _ _)
                have hse : hexN (addN 1 (B.extract 0 i).data.toList) = sealOf ((headOf s.data.toList).take ((headOf s.data.toList).length - 8)) := by rw [hEd]; rfl
                rw [hse] at hH
                rw [← HDD.out] at htf
                have hqd : (!(txt (sealOf ((headOf s.data.toList).take ((headOf s.data.toList).length - 8)))).toList == D.toList) = !decide (sealOf ((headOf s.data.toList).take ((headOf s.data.toList).length - 8)) = D.data.toList) := by
                  rw [str_eq]
                  congr 1
                  rw [decide_eq_decide]
                  exact ⟨fun e => by rw [← e, txt_data], fun e => by rw [e, txt_toList]⟩
                have HO := Lib.hid hO
                have HH := Lib.hid hH
                have HQD := Lib.hid hqd
                have HTF := Lib.hid htf
                have hk1 : k + 1 ≤ s.size := by omega
                clear hO hH hqd htf hEd hEz hse hform hword hwl hx0 hx40
                generalize addN 1 (B.extract 0 i).data.toList = num at HO HH
                generalize sealOf ((headOf s.data.toList).take ((headOf s.data.toList).length - 8)) = sl at HH HQD HTF
                generalize hts : txt sl = ts at HH HQD
                have HTS := Lib.hid hts
                clear hts
                by_cases hq : sl = D.data.toList
                · have e9 : (!ts.toList == D.toList) = false := by rw [HQD.out, decide_eq_true hq]; rfl
                  have HT := HTF.out
                  rw [if_pos hq] at HT
                  have HT2 := Lib.hid HT
                  clear hq HT HQD HTF
                  go_wp2_with fail
                  go_quiet (first | (go_at_call 80; exact still_same (HO.out _)) | (go_at_call 79; exact still_same (HH.out _)))
                  go_wp2_with fail
                  have hB9 := below_drewN hB nq
                  have hown9 : (wr.drewN nq).ownsRow w.heap.size 9 1 (.slice vo xs.length vc) xs.length ((xs.map txt).map Value.string) := hown
                  clear hB hown hsw
                  generalize wr.drewN nq = wz at *
                  go_quiet (fail)
                  go_wp2_with fail
                  go_ret3
                  exact ⟨below_drewN hB9 nq, .inr ⟨xs, _, _, HT2.out, by rw [← HRE.out]; rfl, hown9⟩⟩
                · have e9 : (!ts.toList == D.toList) = true := by rw [HQD.out, decide_eq_false hq]; rfl
                  have HT := HTF.out
                  rw [if_neg hq] at HT
                  have HT2 := Lib.hid HT
                  clear hq HT HQD HTF
                  go_wp2_with fail
                  go_quiet (first | (go_at_call 80; exact still_same (HO.out _)) | (go_at_call 79; exact still_same (HH.out _)))
                  go_wp2_with fail
                  go_ret3
                  exact ⟨below_drewN hB nq, .inl ⟨13, .inr (.inr ⟨HT2.out, rfl⟩), rfl⟩⟩
              · have e6 : word.toList.isEmpty = false := by rw [Lib.toList_data]; simpa using hword
                have HT : Hid (takeOf s.data.toList = .form) := take_noform HNE.out HG.out (by rw [HHL.out, HKM.out, Nat.add_sub_cancel]; exact form_broken HP.out (.inl hword))
                clear hword
                go_wp2_with fail
                go_ret3
                exact ⟨hB, .inl ⟨2, .inr (.inl ⟨HT.out, rfl⟩), rfl⟩⟩
      · have e1 : ((s[k].toNat : Int) != 10) = true := by simp; omega
        have HN : Hid (∀ c ∈ s.data.toList.take (k + 1), nlB c = false) := no_next HNO.out hlt' (by rw [hgk]; simp [nlB]; exact h10)
        clear hgk h10
        go_wp2_with fail
        go_round
        case rel => exact ⟨k + 1, hlt, by go_num, HN⟩
        case measure => simp [intOf]; omega
    · obtain rfl : k = s.size := by omega
      have HT : Hid (takeOf s.data.toList = .short) := by
        refine take_short ?_
        rw [head_at HNO.out (by rw [HSL.out]; exact Nat.le_refl _) (.inl HSL.out.symm), List.length_take, HSL.out, Nat.min_self]
      have e2 : ((s.size : Int) == (s.size : Int)) = true := by simp
      clear HNO
      go_wp2_with fail
      go_ret3
      exact ⟨Below.refl _ _, .inl ⟨14, .inl ⟨HT.out, rfl⟩, rfl⟩⟩

end Go.Proofs.YtchnbnmajagpjaaGreatDoor

namespace Go.Proofs.YtchnbnmajagpjaaGreatDoor
open Go.RowKit Go.Shelf
attribute [local go_sem] Oper.semAt_some


theorem fresh_owns {W : World} {base n : Nat} {v : Value} {xs : List (List UInt8)} (h : W.ownsRow base 9 1 v xs.length ((xs.map txt).map Value.string)) (hn : n ≤ base) : FreshL W n (fun _ => False) v xs := FreshL.owns h hn (fun _ h => h.elim)
theorem endI_left {s : List UInt8} {pre : List (List (List UInt8) × List UInt8)} {r : List UInt8} (h : r = (match pre.getLast? with | some x => x.2 | none => s)) : endI s pre = (s.length : Int) - r.length := by
  unfold endI
  cases hl : pre.getLast? with
  | none => rw [hl] at h; simp only at h ⊢; rw [h]; omega
  | some x => rw [hl] at h; simp only at h ⊢; rw [h]

set_option maxRecDepth 100000 in
set_option maxHeartbeats 3000000 in
theorem rscan_any (s : ByteArray) (hs : s.size ≤ 100000) (w : World) : Calls Tryz.prog 88 #[.string s] w (ScanPost s w) := by
  obtain ⟨i0, hi, hz0, hz1, hz2⟩ := info_parts infoList
  have hsl := size_list s
  have hlen := scan_len _ s.data.toList (Nat.le_refl _)
  rw [hsl] at hlen
  have HL := Lib.hid hlen
  have HSL := Lib.hid hsl
  clear hlen hsl
  go_enter Tryz.func88, Tryz.ntmps88
  go_wp2_with fail
  go_loopw [4, 5] (fun ov lv wr => ∃ (r : ByteArray) (pre : List (List (List UInt8) × List UInt8)) (us : List Value), lv = .string r ∧ r.size ≤ s.size ∧ Hid (scanOf s.data.toList = pre ++ scanOf r.data.toList) ∧ Hid (r.data.toList = (match pre.getLast? with | some x => x.2 | none => s.data.toList)) ∧
      wr.ownsRow w.heap.size 39 1 ov pre.length us ∧ FreshLL wr w.heap.size (fun _ => False) us pre ∧ Below w.heap.size w wr) (fun _ lv _ => strLen lv)
  case atStart => exact ⟨s, [], [], rfl, Nat.le_refl _, (by show _ = _; simp), rfl, World.ownsRow_nil _ _ _ _, ⟨rfl, by simp⟩, Below.refl _ _⟩
  case round =>
    obtain ⟨r, pre, us, rfl, hrs, HP, HR, hown, hf, hB⟩ := hrel
    have hsw := hB.size
    have HT := Lib.hid (rtake_any r (by omega))
    unfold TakePost at HT
    obtain ⟨vo, vc, rfl⟩ := ownsRow_shape hown
    go_wp2_with fail
    refine (HT.out _).mono ?_
    rintro e w1 ⟨hbq, (⟨c, he, rfl⟩ | ⟨xs, rr, v, ht, rfl, hown1⟩)⟩
    · obtain ⟨ec, hno⟩ := err_code he
      have HE : Hid (scanOf s.data.toList = pre) := by show _ = _; rw [HP.out, scan_not hno, List.append_nil]
      have hlast := endI_left HR.out
      rw [size_list, size_list] at hlast
      have HLA := Lib.hid hlast
      clear hno he HT hlast
      go_wp2_with fail
      go_ret2
      refine ⟨hB.trans (hbq.mono hsw), .slice vo pre.length vc, ?_, ?_⟩
      rotate_left
      · rw [HE.out]
        exact readsFF_owns (ownsRow_below hown hbq) (hf.step (X' := fun _ => False) (turned_of_below (X := fun _ => False) hbq) (fun k h => h.elim) (fun k h => h.elim)) (Nat.le_refl _) (Nat.le_refl _)
      · rw [HE.out, HLA.out]; rfl
    · have hless := take_less ht
      rw [size_list] at hless
      have hpx : scanOf s.data.toList = (pre ++ [(xs, rr)]) ++ scanOf rr := by rw [HP.out, scan_ok ht]; simp
      have hpl : pre.length + 1 ≤ 100000 := by
        have h1 := HL.out
        rw [hpx] at h1
        simp at h1; omega
      have hpm : pre.length + 1 ≤ maxLen := by unfold maxLen; omega
      have HPX := Lib.hid hpx
      have hB1 := hB.trans (hbq.mono hsw)
      have hsw1 := hB1.size
      have hown2 := ownsRow_below hown hbq
      have hf2 := hf.step (turned_of_below (X := fun _ => False) hbq) (fun k h => h.elim) (fun k h => h.elim) (X' := fun _ => False)
      have hfv := fresh_owns hown1 hsw
      obtain ⟨uo, uc, rfl⟩ := ownsRow_shape hown1
      clear hpx HP HR HT ht hown hf hown1 hB
      go_wp2_with (at_builtin; refine wpList_append_own _ rfl _ _ 63 rfl w.heap.size 39 i0 (.slice none 0 0) 1 24 Tryz.underlying63 hi hz0 hz1 hz2 rfl (by decide) _ _ _ rfl (hown2.alloc _) ⟨w1.heap.size, 0, none⟩ 1 1 [.slice uo xs.length uc] rfl rfl (cell_one_new _ _ _) (by simp [Value.oneCell']) hpm (by omega) (by simp; omega) ?_; intro v' w3 hown' hgrow _)
      have hB3 := (hB1.alloc hsw1 (.cells #[.slice uo xs.length uc] 39)).grown hgrow (by simp; omega) (fun j ej => (hown2.lt j ej).1)
      have step : ∀ (u : Value) (ys : List (List UInt8)), FreshL w1 w.heap.size (fun _ => False) u ys → FreshL w3 w.heap.size (fun _ => False) u ys := by
        intro u ys h
        have h1 := h.step (Turned.alloc (fun _ => False) w1 (.cells #[.slice uo xs.length uc] 39)) (Nat.le_refl _) (fun k h => h.elim) (fun k h => h.elim) (X' := fun _ => False)
        exact h1.grown (hown2.alloc _) (by decide) hgrow
      go_roundw
      case rel =>
        refine ⟨txt rr, pre ++ [(xs, rr)], us ++ [.slice uo xs.length uc], rfl, by rw [txt_size]; omega, ?_, ?_, by simpa using hown', ⟨by rw [List.length_append, List.length_append, hf2.1]; rfl, ?_⟩, hB3⟩
        · show _ = _; rw [txt_data]; exact HPX.out
        · show _ = _; rw [txt_data, List.getLast?_concat]
        · intro i z hi
          rcases Nat.lt_or_ge i pre.length with h | h
          · rw [List.getElem?_append_left h] at hi
            obtain ⟨u, h1, h2⟩ := hf2.2 i z hi
            refine ⟨u, ?_, step u z.1 h2⟩
            rw [List.getElem?_append_left (by rw [hf2.1]; exact h)]; exact h1
          · rw [List.getElem?_append_right h] at hi
            have hi0 : i - pre.length = 0 := by
              have := (List.getElem?_eq_some_iff.1 hi).1
              simp at this; omega
            rw [hi0] at hi
            cases hi
            refine ⟨_, ?_, step _ _ hfv⟩
            rw [List.getElem?_append_right (by rw [hf2.1]; exact h), hf2.1, hi0]; rfl
      case measure => simp only [strLen, txt_size]; omega

end Go.Proofs.YtchnbnmajagpjaaGreatDoor

namespace Go.Proofs.YtchnbnmajagpjaaGreatDoor
open Go.RowKit Go.Shelf


set_option maxRecDepth 100000 in
set_option maxHeartbeats 4000000 in
theorem rput_any (v : Value) (xs : List ByteArray) (w : World) (hr : ReadsO w w.heap.size v xs) (hn : xs.length ≤ maxLen) (hx : ∀ x ∈ xs, x.size ≤ 1000000) : Calls Tryz.prog 50 #[v] w (PutPost (rawOf xs) w) := by
  unfold maxLen at hn
  have HX : Hid (∀ wr, Below w.heap.size w wr → ReadsO wr wr.heap.size v xs) := fun wr hb => hr.below hb hb.size
  obtain ⟨o, c, rfl, _⟩ := hr
  by_cases h0 : xs.length = 0
  · have HN : Hid (PutPost (rawOf xs) w (.returned (.tuple #[.string ⟨#[]⟩, .int .i64 1])) w) := ⟨.inr (.inl ⟨by rw [List.eq_nil_of_length_eq_zero h0]; rfl, rfl⟩), Below.refl _ _⟩
    have e0 : ((xs.length : Int) == 0) = true := by rw [h0]; rfl
    clear hx h0
    go_enter Tryz.func50, Tryz.ntmps50
    go_wp2_with fail
    go_ret2
    exact HN.out
  have e0 : ((xs.length : Int) == 0) = false := by rw [beq_eq_false_iff_ne]; omega
  by_cases h40 : 40 < xs.length
  · have HN : Hid (PutPost (rawOf xs) w (.returned (.tuple #[.string ⟨#[]⟩, .int .i64 3])) w) := ⟨.inr (.inr ⟨raw_nil h0, by intro h; have := h.2.1; rw [raw_len] at this; omega, rfl⟩), Below.refl _ _⟩
    have e1 : decide (40 < (xs.length : Int)) = true := by simp; omega
    clear hx h0
    go_enter Tryz.func50, Tryz.ntmps50
    go_wp2_with fail
    go_ret2
    exact HN.out
  have e1 : decide (40 < (xs.length : Int)) = false := by simp; omega
  have HZ := Lib.hid hx
  have H0 := Lib.hid h0
  clear hx h0
  go_enter Tryz.func50, Tryz.ntmps50
  go_wp2_with fail
  go_loopw [4, 5] (fun t i wr => ∃ (k : Nat) (s : ByteArray), k ≤ xs.length ∧ i = .int .i64 k ∧ t = .string s ∧ Hid (s = txt (bodyOf (rawOf (xs.take k)))) ∧ s.size ≤ 4000000 * k ∧ Below w.heap.size w wr) (fun _ i _ => xs.length - (intOf i).toNat)
  case atStart => exact ⟨0, _, Nat.zero_le _, rfl, rfl, rfl, by decide, Below.refl _ _⟩
  case round =>
    obtain ⟨k, s, hk, rfl, rfl, HS, hsz, hB⟩ := hrel
    have hsw := hB.size
    by_cases hlt : k < xs.length
    · obtain ⟨o', c', hv', hcell0⟩ := HX.out wr hB
      cases hv'
      obtain ⟨b, f, rfl, hbB, hkc, hcell⟩ := hcell0 k xs[k] (List.getElem?_eq_getElem hlt)
      clear hcell0
      have hkc' : k < c := by omega
      have hxm := HZ.out xs[k] (List.getElem_mem hlt)
      have hnx := body_next xs k hlt
      have hql := quote_len xs[k].data.toList
      rw [size_list] at hql
      generalize xs[k] = x at *
      have hqz : (txt (quoteOf x.data.toList)).size ≤ 3000001 := by rw [txt_size]; omega
      have HN : Hid (s ++ txt (quoteOf x.data.toList) ++ ⟨#[32]⟩ = txt (bodyOf (rawOf (xs.take (k + 1))))) := by
        show _ = _
        rw [HS.out, hnx, show (⟨#[32]⟩ : ByteArray) = txt [32] from rfl, txt_append, txt_append]
      have HQ := Lib.hid (refQuote_any x hxm wr)
      clear hql hnx
      generalize txt (quoteOf x.data.toList) = q at *
      have z1 : (s ++ q).size = s.size + q.size := ByteArray.size_append ..
      have z2 : (s ++ q ++ ⟨#[32]⟩).size = s.size + q.size + 1 := by rw [ByteArray.size_append, z1]; rfl
      have e3 : ¬ 9223372036854775807 < s.size + q.size := by omega
      have e4 : ¬ 9223372036854775807 < s.size + q.size + 1 := by omega
      have hz9 : (s ++ q ++ ⟨#[32]⟩).size ≤ 4000000 * (k + 1) := by omega
      have Z9 := Lib.hid hz9
      clear z2 hz9
      go_wp2_with fail
      refine HQ.out.mono ?_
      rintro e w2 ⟨rfl, m, rfl⟩
      have hB2 := below_drewN hB m
      go_wp2_with fail
      go_roundw
      case rel => exact ⟨k + 1, _, hlt, by go_num, rfl, HN.out, Z9.out, hB2⟩
      case measure => simp [intOf]; omega
    · obtain rfl : k = xs.length := by omega
      have hs := HS.out
      rw [List.take_length] at hs
      have hso := rof_any s (by unfold maxLen; omega)
      have hsh := rhex_any (addN 1 s.data.toList) (add_lt _ _)
      have hse : txt (hexN (addN 1 s.data.toList)) = txt (sealOf (bodyOf (rawOf xs))) := by rw [hs, txt_data]; rfl
      rw [hse] at hsh
      have z0 : s.size = (bodyOf (rawOf xs)).length := by rw [hs, txt_size]
      have z2 : (txt (sealOf (bodyOf (rawOf xs)))).size = 8 := by rw [txt_size, seal_len]
      have HE : Hid (s ++ txt (sealOf (bodyOf (rawOf xs))) ++ ⟨#[10]⟩ = txt (lineOf (rawOf xs))) := by
        show _ = _
        rw [hs, show (⟨#[10]⟩ : ByteArray) = txt [10] from rfl, txt_append, txt_append]; rfl
      have HSO := Lib.hid hso
      have HSH := Lib.hid hsh
      generalize txt (sealOf (bodyOf (rawOf xs))) = ts at HSH HE z2
      generalize addN 1 s.data.toList = num at HSO HSH
      have z3 : (s ++ ts).size = s.size + ts.size := ByteArray.size_append ..
      have z4 : (s ++ ts ++ ⟨#[10]⟩).size = s.size + ts.size + 1 := by rw [ByteArray.size_append, z3]; rfl
      have e3 : ¬ 9223372036854775807 < s.size + ts.size := by omega
      have e4 : ¬ 9223372036854775807 < s.size + ts.size + 1 := by omega
      clear hs hso hsh hse HS
      by_cases hbig : 12991 < (bodyOf (rawOf xs)).length
      · have HN : Hid (PutPost (rawOf xs) w (.returned (.tuple #[.string ⟨#[]⟩, .int .i64 3])) wr) := by
          refine ⟨.inr (.inr ⟨raw_nil H0.out, ?_, rfl⟩), hB⟩
          rintro ⟨_, _, h3⟩
          omega
        have e5 : decide (13000 < (s.size : Int) + (ts.size : Int) + 1) = true := by simp; omega
        have e6 : decide (13000 < ((s ++ ts ++ ⟨#[10]⟩).size : Int)) = true := by simp only [decide_eq_true_eq]; omega
        clear z4
        go_wp2_with fail
        refine (HSO.out _).mono ?_
        rintro e w' ⟨rfl, rfl⟩
        go_wp2_with fail
        refine (HSH.out _).mono ?_
        rintro e w' ⟨rfl, rfl⟩
        go_wp2_with fail
        go_ret2
        exact HN.out
      · have HF : Hid (Fit (rawOf xs)) := ⟨by rw [raw_len]; have := H0.out; omega, by rw [raw_len]; omega, by omega⟩
        have e5 : decide (13000 < (s.size : Int) + (ts.size : Int) + 1) = false := by simp; omega
        have e6 : decide (13000 < ((s ++ ts ++ ⟨#[10]⟩).size : Int)) = false := by simp only [decide_eq_false_iff_not]; omega
        clear z4
        go_wp2_with fail
        refine (HSO.out _).mono ?_
        rintro e w' ⟨rfl, rfl⟩
        go_wp2_with fail
        refine (HSH.out _).mono ?_
        rintro e w' ⟨rfl, rfl⟩
        go_wp2_with fail
        go_ret2
        refine ⟨.inl ⟨HF.out, ?_⟩, hB⟩
        rw [← HE.out]; rfl

end Go.Proofs.YtchnbnmajagpjaaGreatDoor
