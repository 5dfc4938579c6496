/-
  GlobFills: a pattern filled, and a text that one pattern takes and another one tells, are as the chapter says: for every three texts. No condition.
-/
import Derived.Test.YtijpihldeaflgaaRow
import Derived.Test.YtijpihldeaflgaaGRowS
import Derived.Test.YtijpihldeaflgaaGPost
import Derived.Test.YtijpihldeaflgaaGSmall
import Derived.Test.YtijpihldeaflgaaGRefM
namespace Go.Proofs.Ytijpihldeaflgaa
open Go.ChangeShapes Go.WideShapes Go.ChangeAt Go.RowKit

set_option maxRecDepth 100000 in
set_option maxHeartbeats 4000000 in
theorem globFills_walk (p : ByteArray) (_hp : p.size ≤ maxLen) (q : ByteArray) (_hq : q.size ≤ maxLen) (s : ByteArray) (_hs : s.size ≤ maxLen) (w : World) : Calls Try.prog 4 #[.string p, .string q, .string s] w (LawPost w) := by
  have HW := Lib.hid shown_any
  clear _hp _hq _hs
  cases hsm : smallB [p, q, s] with
  | false =>
    have HS : Hid (∀ (v : Value) (B : Nat) (w : World), ReadsO w B v [p, q, s] → Calls Try.prog 10 #[v] w fun e w' => e = .returned (.bool false) ∧ w = w') := fun v B w hr => small_f v _ B w hr (by unfold maxLen; simp) hsm
    clear hsm
    go_enter Try.func4, Try.ntmps4
    go_wp2_with fail
    refine (HW.out _).mono ?_
    rintro e w1 ⟨rfl, n1, rfl⟩
    go_wp2_with fail
    refine (HS.out _ _ _ (built_readsO _ [p, q, s])).mono ?_
    rintro e w1 ⟨rfl, rfl⟩
    go_wp2_with fail
    go_ret
    exact ⟨rfl, (below_drewN (Below.refl _ _) _).alloc (Nat.le_refl _) _⟩
  | true =>
    have HS : Hid (∀ (v : Value) (B : Nat) (w : World), ReadsO w B v [p, q, s] → Calls Try.prog 10 #[v] w fun e w' => e = .returned (.bool true) ∧ w = w') := fun v B w hr => small_t v _ B w hr (by unfold maxLen; simp) hsm
    simp [smallB] at hsm
    obtain ⟨h1, h2, h3⟩ := hsm
    have hf := fill_any p s (by omega) (by omega)
    have hrf := refFill_any p s (by omega) (by omega)
    have ht := subst_any p q s (by omega) (by omega) (by omega)
    have hrt := refSubst_any p q s (by omega) (by omega) (by omega)
    unfold FillPost at hf hrf ht hrt
    generalize txt (fillL p.data.toList s.data.toList) = f at hf hrf
    generalize txt (substL p.data.toList q.data.toList s.data.toList) = t at ht hrt
    have HF := Lib.hid hf
    have HRF := Lib.hid hrf
    have HT := Lib.hid ht
    have HRT := Lib.hid hrt
    have c1 : (f.toList == f.toList) = true := by simp
    clear hf hrf ht hrt h1 h2 h3
    go_enter Try.func4, Try.ntmps4
    go_wp2_with fail
    refine (HW.out _).mono ?_
    rintro e w1 ⟨rfl, n1, rfl⟩
    go_wp2_with fail
    refine (HS.out _ _ _ (built_readsO _ [p, q, s])).mono ?_
    rintro e w1 ⟨rfl, rfl⟩
    go_wp2_with fail
    refine (HF.out _).mono ?_
    rintro e w1 ⟨rfl, n2, rfl⟩
    go_wp2_with fail
    refine (HRF.out _).mono ?_
    rintro e w1 ⟨rfl, n3, rfl⟩
    go_wp2_with fail
    refine (HT.out _).mono ?_
    rintro e w1 ⟨rfl, n4, rfl⟩
    go_wp2_with fail
    refine (HRT.out _).mono ?_
    rintro e w1 ⟨rfl, n5, rfl⟩
    go_wp2_with fail
    go_ret
    exact ⟨ret_bool (by simp), below_drewN ((below_drewN (Below.refl _ _) _).alloc (Nat.le_refl _) _) _⟩

set_option maxRecDepth 100000 in
theorem globFills_lifted (os : Os) (started : os.Started) (H : Type) (enc : TypeId × Value → H) :
    ReturnsInHanded {} Try.checked os 4 .any (Rows.globFillsSpec.pre6 enc Try.prog Try.f4 Rows.globFillsRow.domain false) (Rows.globFillsSpec.post enc Try.prog Try.f4 false true false false) := by
  refine returnsInHanded_of_change (C := Try.checked) own_knob started (by kernel_rfl) Try.func4
    (ChangeSpec.witness6 (enc := enc) (C := Try.checked) false ⟨#[], #[.string ⟨#[]⟩, .string ⟨#[]⟩, .string ⟨#[]⟩], []⟩ 8 (by kernel_rfl) (by kernel_rfl) (by kernel_rfl) (by kernel_rfl)) ?_
  intro W base args ds gs before hval0 hW _ _
  have hval : ∀ (j : Nat) t v, Try.f4.params[j]? = some t → args[j]? = some v → Value.okWide Try.prog W .any base t v := hval0
  have hW' := hW
  obtain ⟨p, q, hA0, hV, rfl, hfz, hnd⟩ := hW
  have hA : DataW.TrodAll enc Try.prog W 0 (fun _ => true) true Try.f4.params.toList args.toList ds p := hA0
  rw [Try.params4] at hA hval
  obtain ⟨v0, v1, v2, d0, d1, d2, p0, p1, p2, rfl, rfl, rfl, h0, h1, h2⟩ := trodAll_three hA
  obtain ⟨rfl, rfl⟩ := trodVars_none hV
  clear hA0 hval0
  simp only [List.append_nil] at hW'
  obtain ⟨s0, rfl, rfl, rfl, ws0⟩ := Go.ChangeMaps.open_string Try.underlying9 (hval 0 9 v0 rfl rfl) h0
  obtain ⟨s1, rfl, rfl, rfl, ws1⟩ := Go.ChangeMaps.open_string Try.underlying9 (hval 1 9 v1 rfl rfl) h1
  obtain ⟨s2, rfl, rfl, rfl, ws2⟩ := Go.ChangeMaps.open_string Try.underlying9 (hval 2 9 v2 rfl rfl) h2
  refine (globFills_walk s0 ws0 s1 ws1 s2 ws2 W ).mono fun e W' h => ⟨.bool true, h.1, ?_⟩
  exact post_true_at hW' rfl (by kernel_rfl) Try.underlying4 rfl (trodAll_mk3 (Go.ChangeMaps.shut_string Try.underlying9 ws0) (Go.ChangeMaps.shut_string Try.underlying9 ws1) (Go.ChangeMaps.shut_string Try.underlying9 ws2)) h.2

theorem globFills_holds : Rows.GlobFillsSaid :=
  OpenClaim.holds_of_wide 4 Try.f4 rfl rfl rfl rfl rfl rfl rfl ⟨rfl, rfl, rfl, rfl, rfl⟩ rfl rfl rfl rfl rfl (by kernel_rfl) Try.func4 (by kernel_rfl)
    (of_decide_eq_true (by kernel_rfl)) (by unfold Func.isWrapper; first | (rw [if_pos (by decide +kernel)]; kernel_rfl) | (rw [if_neg (by decide +kernel)]; exact ⟨rfl, rfl⟩))
    (fun os started H enc _ => globFills_lifted os started H enc)

end Go.Proofs.Ytijpihldeaflgaa
