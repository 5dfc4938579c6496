/-
  GlobEnds: what is matched begins with what is ahead of the sign, ends with what is behind it, and has the stem between; a text longer by something in the middle is matched, too: for every two ends and every text. No condition.
-/
import Derived.Test.YtijpihldeaflgaaRow
import Derived.Test.YtijpihldeaflgaaGRowS
import Derived.Test.YtijpihldeaflgaaGPost
namespace Go.Proofs.Ytijpihldeaflgaa
open Go.ChangeShapes Go.WideShapes Go.ChangeAt Go.RowKit

theorem ends_is {a b s : List UInt8} (ha : (37 : UInt8) ∉ a) (hb : (37 : UInt8) ∉ b) (h1 : a.length + b.length ≤ s.length) (h2 : s.take a.length = a) (h3 : s.drop (s.length - b.length) = b) :
    matchL (a ++ 37 :: b) s = ((s.drop a.length).take (s.length - b.length - a.length), true) := by
  refine match_hit (open_cut a b ha hb) ?_
  rw [ahead_cut a b ha, behind_cut a b ha]
  have e1 : s = s.take a.length ++ s.drop a.length := (List.take_append_drop _ _).symm
  have e2 : s.drop a.length = (s.drop a.length).take (s.length - b.length - a.length) ++ (s.drop a.length).drop (s.length - b.length - a.length) := (List.take_append_drop _ _).symm
  rw [List.drop_drop, show a.length + (s.length - b.length - a.length) = s.length - b.length by omega, h3] at e2
  rw [h2] at e1
  rw [List.append_assoc, ← e2]
  exact e1
theorem ends_not {a b s : List UInt8} (ha : (37 : UInt8) ∉ a) (hb : (37 : UInt8) ∉ b) (h : ¬ (a.length + b.length ≤ s.length ∧ s.take a.length = a ∧ s.drop (s.length - b.length) = b)) :
    matchL (a ++ 37 :: b) s = ([], false) := by
  cases hm : (matchL (a ++ 37 :: b) s).2 with
  | false => exact Prod.ext (match_miss hm) hm
  | true =>
    exfalso
    have hi := match_inv (open_cut a b ha hb) hm
    rw [ahead_cut a b ha, behind_cut a b ha] at hi
    generalize (matchL (a ++ 37 :: b) s).1 = t at hi
    apply h
    subst hi
    refine ⟨by simp, by simp, ?_⟩
    rw [show (a ++ t ++ b).length - b.length = (a ++ t).length by simp; omega]
    simp
theorem ends_both {a b : List UInt8} (ha : (37 : UInt8) ∉ a) (hb : (37 : UInt8) ∉ b) (s : List UInt8) : matchL (a ++ 37 :: b) (a ++ s ++ b) = (s, true) := by
  refine match_hit (open_cut a b ha hb) ?_
  rw [ahead_cut a b ha, behind_cut a b ha]
theorem pat_list (a b : ByteArray) : (a ++ ⟨#[37]⟩ ++ b).data.toList = a.data.toList ++ 37 :: b.data.toList := by
  simp [ByteArray.data_append]
theorem three_list (a s b : ByteArray) : (a ++ s ++ b).data.toList = a.data.toList ++ s.data.toList ++ b.data.toList := by
  simp [ByteArray.data_append]

set_option maxRecDepth 100000 in
set_option maxHeartbeats 4000000 in
theorem globEnds_walk (a : ByteArray) (_ha : a.size ≤ maxLen) (b : ByteArray) (_hb : b.size ≤ maxLen) (s : ByteArray) (_hs : s.size ≤ maxLen) (w : World) : Calls Try.prog 7 #[.string a, .string b, .string s] w (LawPost w) := by
  have HW := Lib.hid shown_any
  clear _ha _hb _hs
  by_cases h1 : 100 < a.size
  · have e1 : decide (100 < (a.size : Int)) = true := by simp; omega
    go_enter Try.func7, Try.ntmps7
    go_wp2_with fail
    refine (HW.out w).mono ?_
    rintro e w1 ⟨rfl, n1, rfl⟩
    go_wp2_with fail
    go_ret
    exact law_drew ⟨_, rfl⟩
  have e1 : decide (100 < (a.size : Int)) = false := by simp; omega
  by_cases h2 : 100 < b.size
  · have e2 : decide (100 < (b.size : Int)) = true := by simp; omega
    go_enter Try.func7, Try.ntmps7
    go_wp2_with fail
    refine (HW.out w).mono ?_
    rintro e w1 ⟨rfl, n1, rfl⟩
    go_wp2_with fail
    go_ret
    exact law_drew ⟨_, rfl⟩
  have e2 : decide (100 < (b.size : Int)) = false := by simp; omega
  by_cases h3 : 300 < s.size
  · have e3 : decide (300 < (s.size : Int)) = true := by simp; omega
    go_enter Try.func7, Try.ntmps7
    go_wp2_with fail
    refine (HW.out w).mono ?_
    rintro e w1 ⟨rfl, n1, rfl⟩
    go_wp2_with fail
    go_ret
    exact law_drew ⟨_, rfl⟩
  have e3 : decide (300 < (s.size : Int)) = false := by simp; omega
  have hab : (a ++ b).size = a.size + b.size := ByteArray.size_append
  have hmax : ¬ 9223372036854775807 < a.size + b.size := by omega
  go_enter Try.func7, Try.ntmps7
  go_wp2_with fail
  refine (HW.out w).mono ?_
  rintro e w1 ⟨rfl, n1, rfl⟩
  go_wp2_with fail
  go_loop [8] (fun i => ∃ k : Nat, k ≤ (a ++ b).size ∧ i = .int .i64 k ∧ Hid (∀ c ∈ (a ++ b).data.toList.take k, c ≠ 37)) (fun i => (a ++ b).size - (intOf i).toNat)
  case atStart => exact ⟨0, Nat.zero_le _, rfl, fun c hc => by simp at hc⟩
  case round =>
    obtain ⟨k, hk, rfl, HA⟩ := hrel
    by_cases hlt : k < (a ++ b).size
    · have hlt' : k < (a ++ b).data.toList.length := by rw [size_list]; exact hlt
      have hgk : (a ++ b).data.toList[k] = (a ++ b)[k] := by rw [Array.getElem_toList]; rfl
      by_cases hc : (a ++ b)[k] = 37
      · have c1 : ((((a ++ b)[k]).toNat : Int) == 37) = true := by rw [hc]; rfl
        clear hc hgk
        go_wp2_with fail
        go_ret
        exact law_drew ⟨_, rfl⟩
      · have c1 : ((((a ++ b)[k]).toNat : Int) == 37) = false := by
          rw [Bool.eq_false_iff]
          intro h
          simp at h
          exact hc (UInt8.toNat_inj.1 (by rw [show (37 : UInt8).toNat = 37 from rfl]; omega))
        have HN : Hid (∀ c ∈ (a ++ b).data.toList.take (k + 1), c ≠ 37) := by
          show ∀ c ∈ (a ++ b).data.toList.take (k + 1), c ≠ 37
          rw [List.take_succ_eq_append_getElem hlt']
          intro c hx
          rcases List.mem_append.1 hx with hx | hx
          · exact HA.out c hx
          · rw [List.mem_singleton] at hx; rw [hx, hgk]; exact hc
        clear hc hgk
        go_wp2_with fail
        go_round
        case rel => exact ⟨k + 1, hlt, by go_num, HN⟩
        case measure => simp [intOf]; omega
    · have hno : (37 : UInt8) ∉ a.data.toList ∧ (37 : UInt8) ∉ b.data.toList := by
        have h := HA.out
        rw [List.take_of_length_le (by rw [size_list]; omega), ByteArray.data_append, Array.toList_append] at h
        exact ⟨fun hh => h 37 (List.mem_append.2 (.inl hh)) rfl, fun hh => h 37 (List.mem_append.2 (.inr hh)) rfl⟩
      obtain ⟨hna, hnb⟩ := hno
      have hp : (a ++ ⟨#[37]⟩ ++ b).size ≤ maxLen := by rw [ByteArray.size_append, ByteArray.size_append]; show a.size + 1 + b.size ≤ _; unfold maxLen; omega
      have hall : (a ++ s ++ b).size ≤ maxLen := by rw [ByteArray.size_append, ByteArray.size_append]; unfold maxLen; omega
      have hm := match_any (a ++ ⟨#[37]⟩ ++ b) s hp (by unfold maxLen; omega)
      have hx := match_any (a ++ ⟨#[37]⟩ ++ b) (a ++ s ++ b) hp hall
      unfold MatchPost at hm hx
      rw [pat_list] at hm hx
      rw [three_list, ends_both hna hnb] at hx
      simp only [txt_toList] at hx
      have HX := Lib.hid hx
      have hal := size_list a
      have hbl := size_list b
      have hsl := size_list s
      clear hx hp hall HA
      have hl1 : ¬ 9223372036854775807 < a.size + 1 := by omega
      have hl2 : ¬ 9223372036854775807 < a.size + 1 + b.size := by omega
      have hl3 : ¬ 9223372036854775807 < a.size + s.size := by omega
      have hl4 : ¬ 9223372036854775807 < a.size + s.size + b.size := by omega
      have c9 : (s.toList == s.toList) = true := by simp
      by_cases g1 : a.size + b.size ≤ s.size
      · have f1 : decide ((a.size : Int) + (b.size : Int) ≤ (s.size : Int)) = true := by simp; omega
        by_cases g2 : s.data.toList.take a.size = a.data.toList
        · have f2 : ((s.extract 0 a.size).toList == a.toList) = true := by
            rw [str_eq, extract_txt]; simp [g2, txt_toList]
          by_cases g3 : s.data.toList.drop (s.size - b.size) = b.data.toList
          · have f3 : ((s.extract (s.size - b.size) s.size).toList == b.toList) = true := by
              rw [str_eq, extract_txt, take_rest, g3]; simp [txt_toList]
            rw [ends_is hna hnb (by omega) (by rw [hal]; exact g2) (by rw [hsl, hbl]; exact g3)] at hm
            have f4 : txt ((s.data.toList.drop a.data.toList.length).take (s.data.toList.length - b.data.toList.length - a.data.toList.length)) = s.extract a.size (s.size - b.size) := by
              rw [extract_txt, hal, hbl, hsl]
            rw [f4] at hm
            have HM := Lib.hid hm
            have c8 : ((s.extract a.size (s.size - b.size)).toList == (s.extract a.size (s.size - b.size)).toList) = true := by simp
            clear hm f4 g2 g3 hna hnb
            go_wp2_with fail
            refine (HM.out _).mono ?_
            rintro e w2 ⟨rfl, n2, rfl⟩
            go_wp2_with fail
            refine (HX.out _).mono ?_
            rintro e w3 ⟨rfl, n3, rfl⟩
            go_wp2_with fail
            go_ret
            exact law_drew ⟨_, rfl⟩
          · have f3 : ((s.extract (s.size - b.size) s.size).toList == b.toList) = false := by
              rw [str_eq, extract_txt, take_rest]
              simp only [decide_eq_false_iff_not]
              intro hh; apply g3; have h5 := congrArg (fun t => t.data.toList) hh; simpa only [txt_data] using h5
            rw [ends_not hna hnb (by rw [hal, hbl, hsl]; exact fun h => g3 h.2.2)] at hm
            have HM := Lib.hid hm
            clear hm g2 g3 hna hnb
            go_wp2_with fail
            refine (HM.out _).mono ?_
            rintro e w2 ⟨rfl, n2, rfl⟩
            go_wp2_with fail
            refine (HX.out _).mono ?_
            rintro e w3 ⟨rfl, n3, rfl⟩
            go_wp2_with fail
            go_ret
            exact law_drew ⟨_, rfl⟩
        · have f2 : ((s.extract 0 a.size).toList == a.toList) = false := by
            rw [str_eq, extract_txt]
            simp only [decide_eq_false_iff_not]
            intro hh; apply g2; have h5 := congrArg (fun t => t.data.toList) hh; simpa using h5
          rw [ends_not hna hnb (by rw [hal, hbl, hsl]; exact fun h => g2 h.2.1)] at hm
          have HM := Lib.hid hm
          clear hm g2 hna hnb
          go_wp2_with fail
          refine (HM.out _).mono ?_
          rintro e w2 ⟨rfl, n2, rfl⟩
          go_wp2_with fail
          refine (HX.out _).mono ?_
          rintro e w3 ⟨rfl, n3, rfl⟩
          go_wp2_with fail
          go_ret
          exact law_drew ⟨_, rfl⟩
      · have f1 : decide ((a.size : Int) + (b.size : Int) ≤ (s.size : Int)) = false := by simp; omega
        rw [ends_not hna hnb (by rw [hal, hbl, hsl]; exact fun h => g1 h.1)] at hm
        have HM := Lib.hid hm
        clear hm hna hnb
        go_wp2_with fail
        refine (HM.out _).mono ?_
        rintro e w2 ⟨rfl, n2, rfl⟩
        go_wp2_with fail
        refine (HX.out _).mono ?_
        rintro e w3 ⟨rfl, n3, rfl⟩
        go_wp2_with fail
        go_ret
        exact law_drew ⟨_, rfl⟩

set_option maxRecDepth 100000 in
theorem globEnds_lifted (os : Os) (started : os.Started) (H : Type) (enc : TypeId × Value → H) :
    ReturnsInHanded {} Try.checked os 7 .any (Rows.globEndsSpec.pre6 enc Try.prog Try.f7 Rows.globEndsRow.domain false) (Rows.globEndsSpec.post enc Try.prog Try.f7 false true false false) := by
  refine returnsInHanded_of_change (C := Try.checked) own_knob started (by kernel_rfl) Try.func7
    (ChangeSpec.witness6 (enc := enc) (C := Try.checked) false ⟨#[], #[.string ⟨#[]⟩, .string ⟨#[]⟩, .string ⟨#[]⟩], []⟩ 8 (by kernel_rfl) (by kernel_rfl) (by kernel_rfl) (by kernel_rfl)) ?_
  intro W base args ds gs before hval0 hW _ _
  have hval : ∀ (j : Nat) t v, Try.f7.params[j]? = some t → args[j]? = some v → Value.okWide Try.prog W .any base t v := hval0
  have hW' := hW
  obtain ⟨p, q, hA0, hV, rfl, hfz, hnd⟩ := hW
  have hA : DataW.TrodAll enc Try.prog W 0 (fun _ => true) true Try.f7.params.toList args.toList ds p := hA0
  rw [Try.params7] at hA hval
  obtain ⟨v0, v1, v2, d0, d1, d2, p0, p1, p2, rfl, rfl, rfl, h0, h1, h2⟩ := trodAll_three hA
  obtain ⟨rfl, rfl⟩ := trodVars_none hV
  clear hA0 hval0
  simp only [List.append_nil] at hW'
  obtain ⟨s0, rfl, rfl, rfl, ws0⟩ := Go.ChangeMaps.open_string Try.underlying9 (hval 0 9 v0 rfl rfl) h0
  obtain ⟨s1, rfl, rfl, rfl, ws1⟩ := Go.ChangeMaps.open_string Try.underlying9 (hval 1 9 v1 rfl rfl) h1
  obtain ⟨s2, rfl, rfl, rfl, ws2⟩ := Go.ChangeMaps.open_string Try.underlying9 (hval 2 9 v2 rfl rfl) h2
  refine (globEnds_walk s0 ws0 s1 ws1 s2 ws2 W ).mono fun e W' h => ⟨.bool true, h.1, ?_⟩
  exact post_true_at hW' rfl (by kernel_rfl) Try.underlying4 rfl (trodAll_mk3 (Go.ChangeMaps.shut_string Try.underlying9 ws0) (Go.ChangeMaps.shut_string Try.underlying9 ws1) (Go.ChangeMaps.shut_string Try.underlying9 ws2)) h.2

theorem globEnds_holds : Rows.GlobEndsSaid :=
  OpenClaim.holds_of_wide 7 Try.f7 rfl rfl rfl rfl rfl rfl rfl ⟨rfl, rfl, rfl, rfl, rfl⟩ rfl rfl rfl rfl rfl (by kernel_rfl) Try.func7 (by kernel_rfl)
    (of_decide_eq_true (by kernel_rfl)) (by unfold Func.isWrapper; first | (rw [if_pos (by decide +kernel)]; kernel_rfl) | (rw [if_neg (by decide +kernel)]; exact ⟨rfl, rfl⟩))
    (fun os started H enc _ => globEnds_lifted os started H enc)

end Go.Proofs.Ytijpihldeaflgaa
