/-
  GlobTurns: taking one pattern's text for the other's, and back, is nothing; a pattern for itself neither: for every two patterns and every text. No condition.
-/
import Derived.Test.YtijpihldeaflgaaRow
import Derived.Test.YtijpihldeaflgaaGRowS
import Derived.Test.YtijpihldeaflgaaGPost
namespace Go.Proofs.Ytijpihldeaflgaa
open Go.ChangeShapes Go.WideShapes Go.ChangeAt Go.RowKit

theorem subst_at {p q s : ByteArray} {t : ByteArray} (h : txt (substL p.data.toList q.data.toList s.data.toList) = t) (hp : p.size ≤ 1000) (hq : q.size ≤ 1000) (hs : s.size ≤ 1000) (w : World) :
    Calls Try.prog 21 #[.string p, .string q, .string s] w fun e w' => e = .returned (.string t) ∧ ∃ n, w' = w.drewN n := by
  have := subst_any p q s (by omega) (by omega) (by omega) w
  unfold FillPost at this
  rwa [h] at this

set_option maxRecDepth 100000 in
set_option maxHeartbeats 4000000 in
theorem globTurns_walk (p : ByteArray) (hp : p.size ≤ maxLen) (q : ByteArray) (_hq : q.size ≤ maxLen) (s : ByteArray) (hs : s.size ≤ maxLen) (w : World) : Calls Try.prog 6 #[.string p, .string q, .string s] w (LawPost w) := by
  have HW := Lib.hid shown_any
  by_cases h0 : 300 < p.size
  · have e0 : decide (300 < (p.size : Int)) = true := by simp; omega
    clear hp _hq hs
    go_enter Try.func6, Try.ntmps6
    go_wp2_with fail
    refine (HW.out _).mono ?_
    rintro e w1 ⟨rfl, n1, rfl⟩
    go_wp2_with fail
    go_ret
    exact law_drew ⟨_, rfl⟩
  have e0 : decide (300 < (p.size : Int)) = false := by simp; omega
  by_cases h1 : 300 < q.size
  · have e1 : decide (300 < (q.size : Int)) = true := by simp; omega
    clear hp _hq hs
    go_enter Try.func6, Try.ntmps6
    go_wp2_with fail
    refine (HW.out _).mono ?_
    rintro e w1 ⟨rfl, n1, rfl⟩
    go_wp2_with fail
    go_ret
    exact law_drew ⟨_, rfl⟩
  have e1 : decide (300 < (q.size : Int)) = false := by simp; omega
  by_cases h2 : 300 < s.size
  · have e2 : decide (300 < (s.size : Int)) = true := by simp; omega
    clear hp _hq hs
    go_enter Try.func6, Try.ntmps6
    go_wp2_with fail
    refine (HW.out _).mono ?_
    rintro e w1 ⟨rfl, n1, rfl⟩
    go_wp2_with fail
    go_ret
    exact law_drew ⟨_, rfl⟩
  have e2 : decide (300 < (s.size : Int)) = false := by simp; omega
  have c0 : (!s.toList == s.toList) = false := by simp
  have c1 : (s.toList == s.toList) = true := by simp
  have HS := Lib.hid (subst_at (p := p) (q := p) (s := s) (t := s) (by rw [subst_self, txt_toList]) (by omega) (by omega) (by omega))
  have hm := match_any p s hp hs
  unfold MatchPost at hm
  cases h : (matchL p.data.toList s.data.toList).2 with
  | false =>
    rw [h, match_miss h] at hm
    have HM : Hid (∀ w, Calls Try.prog 11 #[.string p, .string s] w fun e w' => e = .returned (.tuple #[.string ⟨#[]⟩, .bool false]) ∧ ∃ n, w' = w.drewN n) := hm
    have HT := Lib.hid (subst_at (p := p) (q := q) (s := s) (t := s) (by rw [subst_miss h, txt_toList]) (by omega) (by omega) (by omega))
    have ha : anyB [p] s = false := by simp [anyB, oneB, h]
    have HA : Hid (∀ (v : Value) (B : Nat) (w : World), ReadsO w B v [p] → Calls Try.prog 17 #[v, .string s] w fun e w' => e = .returned (.bool false) ∧ ∃ n, w' = w.drewN n) := by
      intro v B w hr
      have := any_any v [p] s B w hr (by unfold maxLen; simp) (by intro x hx; simp at hx; rw [hx]; exact hp) hs
      rwa [ha] at this
    clear hm h ha hp _hq hs h0 h1 h2
    go_enter Try.func6, Try.ntmps6
    go_wp2_with fail
    refine (HW.out _).mono ?_
    rintro e w1 ⟨rfl, n1, rfl⟩
    go_wp2_with fail
    refine (HS.out _).mono ?_
    rintro e w1 ⟨rfl, n2, rfl⟩
    go_wp2_with fail
    refine (HM.out _).mono ?_
    rintro e w1 ⟨rfl, n3, rfl⟩
    go_wp2_with fail
    refine (HT.out _).mono ?_
    rintro e w1 ⟨rfl, n4, rfl⟩
    go_wp2_with fail
    refine (HA.out _ _ _ (built_readsO _ [p])).mono ?_
    rintro e w1 ⟨rfl, n5, rfl⟩
    go_wp2_with fail
    go_ret
    exact ⟨rfl, below_drewN ((below_drewN (Below.refl _ _) _).alloc (Nat.le_refl _) _) _⟩
  | true =>
    rw [h] at hm
    have HM := Lib.hid hm
    clear hm
    cases ho : openB p.data.toList with
    | false =>
      have HO := Lib.hid (open_f ho)
      clear h ho hp _hq hs h0 h1 h2
      generalize txt (matchL p.data.toList s.data.toList).1 = t at HM
      go_enter Try.func6, Try.ntmps6
      go_wp2_with fail
      refine (HW.out _).mono ?_
      rintro e w1 ⟨rfl, n1, rfl⟩
      go_wp2_with fail
      refine (HS.out _).mono ?_
      rintro e w1 ⟨rfl, n2, rfl⟩
      go_wp2_with fail
      refine (HM.out _).mono ?_
      rintro e w1 ⟨rfl, n3, rfl⟩
      go_wp2_with fail
      refine (HO.out _).mono ?_
      rintro e w1 ⟨rfl, rfl⟩
      go_wp2_with fail
      go_ret
      exact law_drew ⟨_, rfl⟩
    | true =>
      have HO := Lib.hid (open_t ho)
      cases hoq : openB q.data.toList with
      | false =>
        have HQ := Lib.hid (open_f hoq)
        clear h ho hoq hp _hq hs h0 h1 h2
        generalize txt (matchL p.data.toList s.data.toList).1 = t at HM
        go_enter Try.func6, Try.ntmps6
        go_wp2_with fail
        refine (HW.out _).mono ?_
        rintro e w1 ⟨rfl, n1, rfl⟩
        go_wp2_with fail
        refine (HS.out _).mono ?_
        rintro e w1 ⟨rfl, n2, rfl⟩
        go_wp2_with fail
        refine (HM.out _).mono ?_
        rintro e w1 ⟨rfl, n3, rfl⟩
        go_wp2_with fail
        refine (HO.out _).mono ?_
        rintro e w1 ⟨rfl, rfl⟩
        go_wp2_with fail
        refine (HQ.out _).mono ?_
        rintro e w1 ⟨rfl, rfl⟩
        go_wp2_with fail
        go_ret
        exact law_drew ⟨_, rfl⟩
      | true =>
        have HQ := Lib.hid (open_t hoq)
        have HT := Lib.hid (subst_at (p := p) (q := q) (s := s) rfl (by omega) (by omega) (by omega))
        have hl := subst_len p.data.toList q.data.toList s.data.toList
        rw [size_list, size_list] at hl
        have HU := Lib.hid (subst_at (p := q) (q := p) (s := txt (substL p.data.toList q.data.toList s.data.toList)) (t := s) (by rw [txt_data, subst_turn hoq h, txt_toList]) (by omega) (by omega) (by rw [txt_size]; omega))
        clear h ho hoq hp _hq hs h0 h1 h2 hl
        generalize txt (matchL p.data.toList s.data.toList).1 = t at HM
        generalize txt (substL p.data.toList q.data.toList s.data.toList) = u at HT HU
        go_enter Try.func6, Try.ntmps6
        go_wp2_with fail
        refine (HW.out _).mono ?_
        rintro e w1 ⟨rfl, n1, rfl⟩
        go_wp2_with fail
        refine (HS.out _).mono ?_
        rintro e w1 ⟨rfl, n2, rfl⟩
        go_wp2_with fail
        refine (HM.out _).mono ?_
        rintro e w1 ⟨rfl, n3, rfl⟩
        go_wp2_with fail
        refine (HO.out _).mono ?_
        rintro e w1 ⟨rfl, rfl⟩
        go_wp2_with fail
        refine (HQ.out _).mono ?_
        rintro e w1 ⟨rfl, rfl⟩
        go_wp2_with fail
        refine (HT.out _).mono ?_
        rintro e w1 ⟨rfl, n4, rfl⟩
        go_wp2_with fail
        refine (HU.out _).mono ?_
        rintro e w1 ⟨rfl, n5, rfl⟩
        go_wp2_with fail
        go_ret
        exact law_drew ⟨_, rfl⟩

set_option maxRecDepth 100000 in
theorem globTurns_lifted (os : Os) (started : os.Started) (H : Type) (enc : TypeId × Value → H) :
    ReturnsInHanded {} Try.checked os 6 .any (Rows.globTurnsSpec.pre6 enc Try.prog Try.f6 Rows.globTurnsRow.domain false) (Rows.globTurnsSpec.post enc Try.prog Try.f6 false true false false) := by
  refine returnsInHanded_of_change (C := Try.checked) own_knob started (by kernel_rfl) Try.func6
    (ChangeSpec.witness6 (enc := enc) (C := Try.checked) false ⟨#[], #[.string ⟨#[]⟩, .string ⟨#[]⟩, .string ⟨#[]⟩], []⟩ 8 (by kernel_rfl) (by kernel_rfl) (by kernel_rfl) (by kernel_rfl)) ?_
  intro W base args ds gs before hval0 hW _ _
  have hval : ∀ (j : Nat) t v, Try.f6.params[j]? = some t → args[j]? = some v → Value.okWide Try.prog W .any base t v := hval0
  have hW' := hW
  obtain ⟨p, q, hA0, hV, rfl, hfz, hnd⟩ := hW
  have hA : DataW.TrodAll enc Try.prog W 0 (fun _ => true) true Try.f6.params.toList args.toList ds p := hA0
  rw [Try.params6] at hA hval
  obtain ⟨v0, v1, v2, d0, d1, d2, p0, p1, p2, rfl, rfl, rfl, h0, h1, h2⟩ := trodAll_three hA
  obtain ⟨rfl, rfl⟩ := trodVars_none hV
  clear hA0 hval0
  simp only [List.append_nil] at hW'
  obtain ⟨s0, rfl, rfl, rfl, ws0⟩ := Go.ChangeMaps.open_string Try.underlying9 (hval 0 9 v0 rfl rfl) h0
  obtain ⟨s1, rfl, rfl, rfl, ws1⟩ := Go.ChangeMaps.open_string Try.underlying9 (hval 1 9 v1 rfl rfl) h1
  obtain ⟨s2, rfl, rfl, rfl, ws2⟩ := Go.ChangeMaps.open_string Try.underlying9 (hval 2 9 v2 rfl rfl) h2
  refine (globTurns_walk s0 ws0 s1 ws1 s2 ws2 W ).mono fun e W' h => ⟨.bool true, h.1, ?_⟩
  exact post_true_at hW' rfl (by kernel_rfl) Try.underlying4 rfl (trodAll_mk3 (Go.ChangeMaps.shut_string Try.underlying9 ws0) (Go.ChangeMaps.shut_string Try.underlying9 ws1) (Go.ChangeMaps.shut_string Try.underlying9 ws2)) h.2

theorem globTurns_holds : Rows.GlobTurnsSaid :=
  OpenClaim.holds_of_wide 6 Try.f6 rfl rfl rfl rfl rfl rfl rfl ⟨rfl, rfl, rfl, rfl, rfl⟩ rfl rfl rfl rfl rfl (by kernel_rfl) Try.func6 (by kernel_rfl)
    (of_decide_eq_true (by kernel_rfl)) (by unfold Func.isWrapper; first | (rw [if_pos (by decide +kernel)]; kernel_rfl) | (rw [if_neg (by decide +kernel)]; exact ⟨rfl, rfl⟩))
    (fun os started H enc _ => globTurns_lifted os started H enc)

end Go.Proofs.Ytijpihldeaflgaa
