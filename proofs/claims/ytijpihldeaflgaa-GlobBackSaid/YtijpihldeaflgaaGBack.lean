/-
  GlobBack: an open pattern matches what it is filled with, with that stem; what is matched, filled with its stem, is itself: for every two texts. No condition.
-/
import Derived.Test.YtijpihldeaflgaaRow
import Derived.Test.YtijpihldeaflgaaGRowS
import Derived.Test.YtijpihldeaflgaaGPost
namespace Go.Proofs.Ytijpihldeaflgaa
open Go.ChangeShapes Go.WideShapes Go.ChangeAt Go.RowKit

set_option maxRecDepth 100000 in
set_option maxHeartbeats 2000000 in
theorem globBack_walk (p : ByteArray) (_hp : p.size ≤ maxLen) (s : ByteArray) (_hs : s.size ≤ maxLen) (w : World) : Calls Try.prog 5 #[.string p, .string s] w (LawPost w) := by
  have HW := Lib.hid shown_any
  by_cases h1 : 300 < p.size
  · have e1 : decide (300 < (p.size : Int)) = true := by simp; omega
    clear _hp _hs
    go_enter Try.func5, Try.ntmps5
    go_wp2_with (go_at_call 9; refine (HW.out _).mono ?_; rintro e w1 ⟨rfl, n1, rfl⟩)
    go_ret
    exact law_drew ⟨_, rfl⟩
  have e1 : decide (300 < (p.size : Int)) = false := by simp; omega
  by_cases h2 : 300 < s.size
  · have e2 : decide (300 < (s.size : Int)) = true := by simp; omega
    clear _hp _hs
    go_enter Try.func5, Try.ntmps5
    go_wp2_with (go_at_call 9; refine (HW.out _).mono ?_; rintro e w1 ⟨rfl, n1, rfl⟩)
    go_ret
    exact law_drew ⟨_, rfl⟩
  have e2 : decide (300 < (s.size : Int)) = false := by simp; omega
  have hsl := size_list s
  have hpl := size_list p
  -- the second half: what is matched, filled again
  have hm := match_any p s _hp _hs
  unfold MatchPost at hm
  have hml := match_len p.data.toList s.data.toList
  cases h : (matchL p.data.toList s.data.toList).2 with
  | false =>
    rw [h, match_miss h] at hm
    have HM : Hid (∀ w, Calls Try.prog 11 #[.string p, .string s] w fun e w' => e = .returned (.tuple #[.string ⟨#[]⟩, .bool false]) ∧ ∃ n, w' = w.drewN n) := hm
    clear hm
    cases ho : openB p.data.toList with
    | false =>
      have HO := Lib.hid (open_f ho)
      clear h ho h1 h2 hml hsl hpl _hp _hs
      go_enter Try.func5, Try.ntmps5
      go_wp2_with (first | (go_at_call 9; refine (HW.out _).mono ?_; rintro e w1 ⟨rfl, n1, rfl⟩) | (go_at_call 15; refine (HO.out _).mono ?_; rintro e w1 ⟨rfl, rfl⟩) | (go_at_call 11; refine (HM.out _).mono ?_; rintro e w1 ⟨rfl, n2, rfl⟩))
      go_ret
      exact law_drew ⟨_, rfl⟩
    | true =>
      have HO := Lib.hid (open_t ho)
      have hf := fill_any p s (by omega) (by omega)
      have hg := match_any p (txt (fillL p.data.toList s.data.toList)) _hp (by have := fill_len p.data.toList s.data.toList; unfold maxLen; rw [txt_size]; omega)
      unfold MatchPost at hg
      unfold FillPost at hf
      rw [txt_data, match_fill ho] at hg
      simp only [txt_toList] at hg
      have HF := Lib.hid hf
      have HG := Lib.hid hg
      clear hf hg h ho h1 h2 hml hsl hpl _hp _hs
      generalize txt (fillL p.data.toList s.data.toList) = f at HF HG
      have c1 : (!s.toList == s.toList) = false := by simp
      go_enter Try.func5, Try.ntmps5
      go_wp2_with fail
      refine (HW.out _).mono ?_
      rintro e w1 ⟨rfl, n1, rfl⟩
      go_wp2_with fail
      refine (HO.out _).mono ?_
      rintro e w1 ⟨rfl, rfl⟩
      go_wp2_with fail
      refine (HF.out _).mono ?_
      rintro e w1 ⟨rfl, n2, rfl⟩
      go_wp2_with fail
      refine (HG.out _).mono ?_
      rintro e w1 ⟨rfl, n3, rfl⟩
      go_wp2_with fail
      refine (HM.out _).mono ?_
      rintro e w1 ⟨rfl, n4, rfl⟩
      go_wp2_with fail
      go_ret
      exact law_drew ⟨_, rfl⟩
  | true =>
    rw [h] at hm
    have HM := Lib.hid hm
    obtain ⟨hfm, hr⟩ := fill_match h
    have HR := Lib.hid (right_t hr)
    have hb := fill_any p (txt (matchL p.data.toList s.data.toList).1) (by omega) (by rw [txt_size]; omega)
    unfold FillPost at hb
    rw [txt_data, hfm, txt_toList] at hb
    have HB := Lib.hid hb
    clear hm hb hfm hr
    have c2 : (s.toList == s.toList) = true := by simp
    cases ho : openB p.data.toList with
    | false =>
      have HO := Lib.hid (open_f ho)
      clear h ho h1 h2 hml hsl hpl _hp _hs
      generalize txt (matchL p.data.toList s.data.toList).1 = t at HM HB
      go_enter Try.func5, Try.ntmps5
      go_wp2_with (first | (go_at_call 9; refine (HW.out _).mono ?_; rintro e w1 ⟨rfl, n1, rfl⟩) | (go_at_call 15; refine (HO.out _).mono ?_; rintro e w1 ⟨rfl, rfl⟩) | (go_at_call 11; refine (HM.out _).mono ?_; rintro e w1 ⟨rfl, n2, rfl⟩) | (go_at_call 19; refine (HB.out _).mono ?_; rintro e w1 ⟨rfl, n5, rfl⟩) | (go_at_call 13; refine (HR.out _).mono ?_; rintro e w1 ⟨rfl, rfl⟩))
      go_ret
      exact law_drew ⟨_, rfl⟩
    | true =>
      have HO := Lib.hid (open_t ho)
      have hf := fill_any p s (by omega) (by omega)
      have hg := match_any p (txt (fillL p.data.toList s.data.toList)) _hp (by have := fill_len p.data.toList s.data.toList; unfold maxLen; rw [txt_size]; omega)
      unfold MatchPost at hg
      unfold FillPost at hf
      rw [txt_data, match_fill ho] at hg
      simp only [txt_toList] at hg
      have HF := Lib.hid hf
      have HG := Lib.hid hg
      clear hf hg h ho h1 h2 hml hsl hpl _hp _hs
      generalize txt (fillL p.data.toList s.data.toList) = f at HF HG
      generalize txt (matchL p.data.toList s.data.toList).1 = t at HM HB
      have c1 : (!s.toList == s.toList) = false := by simp
      go_enter Try.func5, Try.ntmps5
      go_wp2_with fail
      refine (HW.out _).mono ?_
      rintro e w1 ⟨rfl, n1, rfl⟩
      go_wp2_with fail
      refine (HO.out _).mono ?_
      rintro e w1 ⟨rfl, rfl⟩
      go_wp2_with fail
      refine (HF.out _).mono ?_
      rintro e w1 ⟨rfl, n2, rfl⟩
      go_wp2_with fail
      refine (HG.out _).mono ?_
      rintro e w1 ⟨rfl, n3, rfl⟩
      go_wp2_with fail
      refine (HM.out _).mono ?_
      rintro e w1 ⟨rfl, n4, rfl⟩
      go_wp2_with fail
      refine (HB.out _).mono ?_
      rintro e w1 ⟨rfl, n5, rfl⟩
      go_wp2_with fail
      refine (HR.out _).mono ?_
      rintro e w1 ⟨rfl, rfl⟩
      go_wp2_with fail
      go_ret
      exact law_drew ⟨_, rfl⟩

set_option maxRecDepth 100000 in
theorem globBack_lifted (os : Os) (started : os.Started) (H : Type) (enc : TypeId × Value → H) :
    ReturnsInHanded {} Try.checked os 5 .any (Rows.globBackSpec.pre6 enc Try.prog Try.f5 Rows.globBackRow.domain false) (Rows.globBackSpec.post enc Try.prog Try.f5 false true false false) := by
  refine returnsInHanded_of_change (C := Try.checked) own_knob started (by kernel_rfl) Try.func5
    (ChangeSpec.witness6 (enc := enc) (C := Try.checked) false ⟨#[], #[.string ⟨#[]⟩, .string ⟨#[]⟩], []⟩ 8 (by kernel_rfl) (by kernel_rfl) (by kernel_rfl) (by kernel_rfl)) ?_
  intro W base args ds gs before hval0 hW _ _
  have hval : ∀ (j : Nat) t v, Try.f5.params[j]? = some t → args[j]? = some v → Value.okWide Try.prog W .any base t v := hval0
  have hW' := hW
  obtain ⟨p, q, hA0, hV, rfl, hfz, hnd⟩ := hW
  have hA : DataW.TrodAll enc Try.prog W 0 (fun _ => true) true Try.f5.params.toList args.toList ds p := hA0
  rw [Try.params5] at hA hval
  obtain ⟨v0, v1, d0, d1, p0, p1, rfl, rfl, rfl, h0, h1⟩ := trodAll_two hA
  obtain ⟨rfl, rfl⟩ := trodVars_none hV
  clear hA0 hval0
  simp only [List.append_nil] at hW'
  obtain ⟨s0, rfl, rfl, rfl, ws0⟩ := Go.ChangeMaps.open_string Try.underlying9 (hval 0 9 v0 rfl rfl) h0
  obtain ⟨s1, rfl, rfl, rfl, ws1⟩ := Go.ChangeMaps.open_string Try.underlying9 (hval 1 9 v1 rfl rfl) h1
  refine (globBack_walk s0 ws0 s1 ws1 W ).mono fun e W' h => ⟨.bool true, h.1, ?_⟩
  exact post_true_at hW' rfl (by kernel_rfl) Try.underlying4 rfl (trodAll_mk2 (Go.ChangeMaps.shut_string Try.underlying9 ws0) (Go.ChangeMaps.shut_string Try.underlying9 ws1)) h.2

theorem globBack_holds : Rows.GlobBackSaid :=
  OpenClaim.holds_of_wide 5 Try.f5 rfl rfl rfl rfl rfl rfl rfl ⟨rfl, rfl, rfl, rfl, rfl⟩ rfl rfl rfl rfl rfl (by kernel_rfl) Try.func5 (by kernel_rfl)
    (of_decide_eq_true (by kernel_rfl)) (by unfold Func.isWrapper; first | (rw [if_pos (by decide +kernel)]; kernel_rfl) | (rw [if_neg (by decide +kernel)]; exact ⟨rfl, rfl⟩))
    (fun os started H enc _ => globBack_lifted os started H enc)

end Go.Proofs.Ytijpihldeaflgaa
