/-
  What the document's own Match, Subst and Any answer: the same as the program's.
-/
import Derived.Test.YtijpihldeaflgaaGRef
namespace Go.Proofs.Ytijpihldeaflgaa
open Go.RowKit Go.Shelf

/-- The text that the document's loop tries. -/
def tried (p s : ByteArray) (n i k : Nat) : ByteArray := p.extract 0 n ++ s.extract i k ++ p.extract (n + 1) p.size
def OuterNo (p s : ByteArray) (n i : Nat) : Prop := n < i → ∀ k', n ≤ k' → k' ≤ s.size → tried p s n n k' ≠ s
def InnerNo (p s : ByteArray) (n i k : Nat) : Prop := i = n → ∀ k', n ≤ k' → k' < k → tried p s n n k' ≠ s
theorem outer_next {p s : ByteArray} {n i k : Nat} (h1 : OuterNo p s n i) (h2 : InnerNo p s n i k) (hk : s.size < k) : OuterNo p s n (i + 1) := by
  intro hn k' a b
  by_cases h : n < i
  · exact h1 h k' a b
  · exact h2 (by omega) k' a (by omega)
theorem inner_next {p s : ByteArray} {n i k : Nat} (h : InnerNo p s n i k) (hh : i ≠ n ∨ tried p s n i k ≠ s) : InnerNo p s n i (k + 1) := by
  intro hi k' a b
  by_cases hk : k' < k
  · exact h hi k' a hk
  · have : k' = k := by omega
    subst this
    rcases hh with hh | hh
    · exact absurd hi hh
    · rw [hi] at hh; exact hh
theorem tried_hit {p s : ByteArray} {k : Nat} (ho : openB p.data.toList = true) (h : tried p s (aheadL p.data.toList).length (aheadL p.data.toList).length k = s) :
    matchL p.data.toList s.data.toList = ((s.extract (aheadL p.data.toList).length k).data.toList, true) := by
  refine match_hit ho ?_
  unfold tried at h
  rw [ext_ahead ho, ext_behind ho] at h
  have := congrArg (fun x : ByteArray => x.data.toList) h
  simp only [ByteArray.data_append, Array.toList_append, txt_data] at this
  exact this.symm
theorem tried_none {p s : ByteArray} {i : Nat} (ho : openB p.data.toList = true) (h : OuterNo p s (aheadL p.data.toList).length i) (hi : s.size < i) : matchL p.data.toList s.data.toList = ([], false) := by
  cases hm : (matchL p.data.toList s.data.toList).2 with
  | false => rw [← match_miss hm, ← hm]
  | true =>
    exfalso
    have hs := match_inv ho hm
    have hl := congrArg List.length hs
    simp only [List.length_append] at hl
    rw [size_list] at hl
    refine h (by omega) ((aheadL p.data.toList).length + (matchL p.data.toList s.data.toList).1.length) (by omega) (by omega) ?_
    unfold tried
    rw [ext_ahead ho, ext_behind ho, extract_txt, Nat.add_sub_cancel_left]
    have e : (s.data.toList.drop (aheadL p.data.toList).length).take (matchL p.data.toList s.data.toList).1.length = (matchL p.data.toList s.data.toList).1 := by
      generalize (matchL p.data.toList s.data.toList).1 = t at hs
      rw [hs, List.append_assoc]; simp
    rw [e, txt_append, txt_append, ← hs, txt_toList]

set_option maxRecDepth 100000 in
set_option maxHeartbeats 4000000 in
theorem refMatch_open (p s : ByteArray) (hp : p.size ≤ 1000000000000) (hs : s.size ≤ 1000000000000) (ho : openB p.data.toList = true) (w : World) : Calls Try.prog 12 #[.string p, .string s] w (MatchPost p.data.toList s.data.toList w) := by
  have hm := marks_any p (by unfold maxLen; omega)
  have hc : cntL p.data.toList = 1 := by simpa [open_is] using ho
  have hl := open_lens ho
  rw [size_list] at hl
  have HM : Hid (∀ w, Calls Try.prog 26 #[.string p] w fun e w' => e = .returned (.tuple #[.int .i64 1, .int .i64 ((aheadL p.data.toList).length : Nat)]) ∧ w' = w) := by
    intro w
    refine (hm w).mono ?_
    rintro e w' ⟨a, rfl, ha, _, rfl⟩
    rw [ha ho, hc]
    exact ⟨rfl, rfl⟩
  have hz1 : (p.extract 0 (aheadL p.data.toList).length).size = (aheadL p.data.toList).length := by rw [ext_ahead ho, txt_size]
  have hz2 : (p.extract ((aheadL p.data.toList).length + 1) p.size).size = (behindL p.data.toList).length := by rw [ext_behind ho, txt_size]
  have HY : Hid (∀ k, tried p s (aheadL p.data.toList).length (aheadL p.data.toList).length k = s → matchL p.data.toList s.data.toList = ((s.extract (aheadL p.data.toList).length k).data.toList, true)) := fun k => tried_hit ho
  have HZ : Hid (∀ i, OuterNo p s (aheadL p.data.toList).length i → s.size < i → matchL p.data.toList s.data.toList = ([], false)) := fun i => tried_none ho
  have he : p.toList.isEmpty = false := by
    rw [Lib.toList_data]
    cases h : p.data.toList with
    | nil => rw [h] at ho; simp [openB] at ho
    | cons => rfl
  clear hm hc
  generalize (aheadL p.data.toList).length = n at hl HM hz1 hz2 HY HZ
  have h1 : n ≤ p.size := by omega
  have h2 : n + 1 ≤ p.size := by omega
  have hz : (p.extract 0 n).size + (p.extract (n + 1) p.size).size ≤ p.size := by omega
  clear hl ho hz1 hz2
  go_enter Try.func12, Try.ntmps12
  go_wp2_with (go_at_call 26; refine (HM.out _).mono ?_; rintro e w' ⟨rfl, rfl⟩)
  go_loopg [8, 9] (s.size + 1) (fun g i _ wr => ∃ (i' q : Nat), i' + g = s.size + 1 ∧ i = .int .i64 i' ∧ wr = w'.drewN q ∧ Hid (OuterNo p s n i'))
  case atStart => exact ⟨0, 0, by omega, rfl, rfl, fun h => absurd h (Nat.not_lt_zero _)⟩
  case round =>
    obtain ⟨i, q, hi, rfl, rfl, HA⟩ := hrel
    by_cases hlt : i ≤ s.size
    · have hlti : (i : Int) ≤ (s.size : Int) := by omega
      go_wp2
      go_loopg [9] (s.size + 1 - i) (fun g k wr => ∃ (k' q : Nat), i ≤ k' ∧ k' + g = s.size + 1 ∧ k = .int .i64 k' ∧ wr = w'.drewN q ∧ Hid (InnerNo p s n i k'))
      case atStart => exact ⟨i, q, Nat.le_refl _, by omega, rfl, rfl, fun _ k' a b => by omega⟩
      case round =>
        obtain ⟨k, q, hik, hk, rfl, rfl, HB⟩ := hrel
        by_cases hltk : k ≤ s.size
        · have hltk' : (k : Int) ≤ (s.size : Int) := by omega
          have hxs : (s.extract i k).size ≤ s.size := by rw [extract_txt, txt_size]; simp; omega
          have g1 : ¬ 9223372036854775807 < (p.extract 0 n).size + (s.extract i k).size := by omega
          have g2 : ¬ 9223372036854775807 < (p.extract 0 n).size + (s.extract i k).size + (p.extract (n + 1) p.size).size := by omega
          have g3 : (p.extract 0 n ++ s.extract i k).size = (p.extract 0 n).size + (s.extract i k).size := ByteArray.size_append ..
          by_cases ht : tried p s n i k = s
          · have e1 : ((p.extract 0 n ++ s.extract i k ++ p.extract (n + 1) p.size).toList == s.toList) = true := by rw [str_eq]; simpa [tried] using ht
            by_cases hin : i = n
            · subst hin
              have HR := Lib.hid (HY.out k ht)
              clear ht HA HB
              go_wp2
              go_quiet (fail)
              go_wp2
              go_ret2
              exact match_is HR.out ⟨_, rfl⟩
            · have e2 : ((i : Int) == (n : Int)) = false := by simp; omega
              have HN : Hid (InnerNo p s n i (k + 1)) := inner_next HB.out (.inl hin)
              clear ht hin
              go_wp2
              go_quiet (fail)
              go_wp2
              go_roundg (s.size + 1 - (k + 1))
              case measure => omega
              case rel => exact ⟨k + 1, _, by omega, by omega, by go_num, rfl, HN⟩
          · have e1 : ((p.extract 0 n ++ s.extract i k ++ p.extract (n + 1) p.size).toList == s.toList) = false := by rw [str_eq]; simpa [tried] using ht
            have HN : Hid (InnerNo p s n i (k + 1)) := inner_next HB.out (.inr ht)
            clear ht
            go_wp2
            go_quiet (fail)
            go_wp2
            go_roundg (s.size + 1 - (k + 1))
            case measure => omega
            case rel => exact ⟨k + 1, _, by omega, by omega, by go_num, rfl, HN⟩
        · have hltk' : ¬ (k : Int) ≤ (s.size : Int) := by omega
          have HN : Hid (OuterNo p s n (i + 1)) := outer_next HA.out HB.out (by omega)
          go_wp2
          go_roundg (s.size + 1 - (i + 1))
          case measure => omega
          case rel => exact ⟨i + 1, _, by omega, by go_num, rfl, HN⟩
    · have hlti : ¬ (i : Int) ≤ (s.size : Int) := by omega
      have HR := Lib.hid (HZ.out i HA.out (by omega))
      go_wp2
      go_ret2
      exact match_no HR.out ⟨_, rfl⟩

set_option maxRecDepth 100000 in
set_option maxHeartbeats 2000000 in
theorem refMatch_shut (p s : ByteArray) (hp : p.size ≤ 1000000000000) (ho : openB p.data.toList = false) (w : World) : Calls Try.prog 12 #[.string p, .string s] w (MatchPost p.data.toList s.data.toList w) := by
  have HM := Lib.hid (marks_any p (by unfold maxLen; omega))
  have hsh := match_shut (s := s.data.toList) ho
  have hc : cntL p.data.toList ≠ 1 := by simpa [open_is] using ho
  rw [right_is] at hsh
  cases he : p.toList.isEmpty with
  | true =>
    have HN : Hid (matchL p.data.toList s.data.toList = ([], false)) := by
      show _ = _
      rw [hsh]
      rw [Lib.toList_data] at he
      rw [he]; rfl
    clear hsh hc ho hp
    go_enter Try.func12, Try.ntmps12
    go_wp2_with (go_at_call 26; refine (HM.out _).mono ?_; rintro e w' ⟨a, rfl, _, _, rfl⟩)
    go_ret2
    exact match_no HN.out ⟨0, rfl⟩
  | false =>
    by_cases h1 : 1 < cntL p.data.toList
    · have e1 : decide (1 < ((cntL p.data.toList : Nat) : Int)) = true := by simp; omega
      have HN : Hid (matchL p.data.toList s.data.toList = ([], false)) := by
        show _ = _
        rw [hsh, decide_eq_false (by omega)]; simp
      clear hsh hc ho hp h1
      go_enter Try.func12, Try.ntmps12
      go_wp2_with (go_at_call 26; refine (HM.out _).mono ?_; rintro e w' ⟨a, rfl, _, _, rfl⟩)
      go_ret2
      exact match_no HN.out ⟨0, rfl⟩
    · have h0 : cntL p.data.toList = 0 := by omega
      have HM0 : Hid (∀ w, Calls Try.prog 26 #[.string p] w fun e w' => ∃ a : Int, e = .returned (.tuple #[.int .i64 0, .int .i64 a]) ∧ w' = w) := by
        intro w
        refine (HM.out w).mono ?_
        rintro e w' ⟨a, rfl, _, _, rfl⟩
        rw [h0]
        exact ⟨a, rfl, rfl⟩
      have HN : Hid (matchL p.data.toList s.data.toList = ([], p.toList == s.toList)) := by
        show _ = _
        rw [hsh, h0]
        rw [Lib.toList_data] at he
        rw [he, Lib.toList_data, Lib.toList_data, Bool.beq_comm (a := p.data.toList)]; rfl
      clear hsh hc ho hp h1 h0 HM
      go_enter Try.func12, Try.ntmps12
      go_wp2_with (go_at_call 26; refine (HM0.out _).mono ?_; rintro e w' ⟨a, rfl, rfl⟩)
      go_ret2
      exact match_is HN.out ⟨0, rfl⟩

theorem refMatch_any (p s : ByteArray) (hp : p.size ≤ 1000000000000) (hs : s.size ≤ 1000000000000) (w : World) : Calls Try.prog 12 #[.string p, .string s] w (MatchPost p.data.toList s.data.toList w) := by
  cases h : openB p.data.toList with
  | false => exact refMatch_shut p s hp h w
  | true => exact refMatch_open p s hp hs h w

set_option maxRecDepth 100000 in
set_option maxHeartbeats 1000000 in
theorem refSubst_any (p q s : ByteArray) (hp : p.size ≤ 1000000000000) (hq : q.size ≤ 1000000000000) (hs : s.size ≤ 1000000000000) (w : World) : Calls Try.prog 22 #[.string p, .string q, .string s] w (FillPost (substL p.data.toList q.data.toList s.data.toList) w) := by
  have hm := refMatch_any p s hp hs
  have hml := match_len p.data.toList s.data.toList
  rw [size_list] at hml
  unfold MatchPost at hm
  cases h : (matchL p.data.toList s.data.toList).2 with
  | false =>
    rw [h] at hm
    have HM := Lib.hid hm
    have HF : Hid (txt (substL p.data.toList q.data.toList s.data.toList) = s) := by show _ = _; rw [subst_miss h, txt_toList]
    clear h hp hs hm hml
    go_enter Try.func22, Try.ntmps22
    go_wp2_with (go_at_call 12; refine (HM.out _).mono ?_; rintro e w' ⟨rfl, nd, rfl⟩)
    go_ret
    exact ⟨by rw [HF.out]; rfl, nd, rfl⟩
  | true =>
    rw [h] at hm
    have HM := Lib.hid hm
    have hf := refFill_any q (txt (matchL p.data.toList s.data.toList).1) hq (by rw [txt_size]; omega)
    rw [txt_data, ← subst_hit h] at hf
    have HF := Lib.hid hf
    clear h hp hs hm hml hf
    go_enter Try.func22, Try.ntmps22
    go_wp2_with (first | (go_at_call 12; refine (HM.out _).mono ?_; rintro e w' ⟨rfl, nd, rfl⟩) | (go_at_call 20; refine (HF.out _).mono ?_; rintro e w' ⟨rfl, nf, rfl⟩))
    go_ret
    exact ⟨rfl, _, rfl⟩

set_option maxRecDepth 100000 in
set_option maxHeartbeats 2000000 in
theorem refAny_any (v : Value) (ps : List ByteArray) (s : ByteArray) (B : Nat) (w : World) (hr : ReadsO w B v ps) (hn : ps.length ≤ maxLen) (hz : ∀ p ∈ ps, p.size ≤ 1000000000000) (hs : s.size ≤ 1000000000000) :
    Calls Try.prog 18 #[v, .string s] w fun e w' => e = .returned (.bool (anyB ps s)) ∧ ∃ n, w' = w.drewN n := by
  unfold maxLen at hn
  obtain ⟨o, c, rfl, hx⟩ := hr
  have HX := Lib.hid hx
  have HZ := Lib.hid hz
  have HS := Lib.hid hs
  clear hx hz hs
  go_enter Try.func18, Try.ntmps18
  go_wp2
  go_loopw [5, 6, 7] (fun i _ _ wr => ∃ k q : Nat, k ≤ ps.length ∧ i = .int .i64 k ∧ wr = w.drewN q ∧ Hid (∀ j (hj : j < ps.length), j < k → oneB ps[j] s = false)) (fun i _ _ _ => ps.length - (intOf i).toNat)
  case atStart => exact ⟨0, 0, Nat.zero_le _, rfl, rfl, fun j hj h => absurd h (Nat.not_lt_zero _)⟩
  case round =>
    obtain ⟨k, q, hk, rfl, rfl, HA⟩ := hrel
    by_cases hlt : k < ps.length
    · obtain ⟨b, f, rfl, _, hkc, hcell⟩ := HX.out k ps[k] (List.getElem?_eq_getElem hlt)
      have hkc' : k < c := by omega
      have hc := refMatch_any ps[k] s (HZ.out _ (List.getElem_mem hlt)) HS.out
      unfold MatchPost at hc
      cases h1 : oneB ps[k] s with
      | true =>
        unfold oneB at h1
        rw [h1] at hc
        have HC := Lib.hid hc
        have HN : Hid (anyB ps s = true) := first_some hlt h1
        clear hc h1
        generalize (matchL ps[k].data.toList s.data.toList).1 = t at HC
        generalize ps[k] = x at hcell HC
        go_wp2_with (go_at_call 12; refine (HC.out _).mono ?_; rintro e w' ⟨rfl, nd, rfl⟩)
        go_ret
        exact ⟨ret_bool HN.out.symm, _, rfl⟩
      | false =>
        unfold oneB at h1
        rw [h1] at hc
        have HC := Lib.hid hc
        have HN : Hid (∀ j (hj : j < ps.length), j < k + 1 → oneB ps[j] s = false) := by
          intro j hj hjk
          by_cases hjk' : j < k
          · exact HA.out j hj hjk'
          · have : j = k := by omega
            subst this
            exact h1
        clear hc h1
        generalize (matchL ps[k].data.toList s.data.toList).1 = t at HC
        generalize ps[k] = x at hcell HC
        go_wp2_with (go_at_call 12; refine (HC.out _).mono ?_; rintro e w' ⟨rfl, nd, rfl⟩)
        go_roundw
        case rel => exact ⟨k + 1, _, hlt, by go_num, rfl, HN⟩
        case measure => simp [intOf]; omega
    · have HN : Hid (anyB ps s = false) := first_none fun j hj => HA.out j hj (by omega)
      go_wp2
      go_ret
      exact ⟨ret_bool HN.out.symm, _, rfl⟩

end Go.Proofs.Ytijpihldeaflgaa
