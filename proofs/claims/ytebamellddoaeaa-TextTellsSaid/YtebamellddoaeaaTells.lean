/-
  TextTells: whether a text is a number, and which, and whether it is a path, is as the chapter says: for every text. No condition.
-/
import Derived.Test.YtebamellddoaeaaRow
import Derived.Test.YtebamellddoaeaaRefPath
namespace Go.Proofs.Ytebamellddoaeaa
open Go.ChangeShapes Go.WideShapes Go.ChangeAt Go.RowKit

theorem int_beq_self (a : Int) : (a == a) = true := by simp

set_option maxRecDepth 100000 in
set_option maxHeartbeats 2000000 in
theorem textTells_walk (s : ByteArray) (hs : s.size ≤ maxLen) (w : World) : Calls Try.prog 3 #[.string s] w fun e w' => e = .returned (.bool true) ∧ Below w.heap.size w w' := by
  by_cases h : 1000 < s.size
  · have e1 : decide (1000 < (s.size : Int)) = true := by simp; omega
    go_enter Try.func3, Try.ntmps3
    go_wp2_with fail
    refine (shown_any w).mono ?_
    rintro e w1 ⟨rfl, hb1⟩
    go_wp2_with fail
    go_ret
    exact ⟨rfl, hb1⟩
  · have e1 : decide (1000 < (s.size : Int)) = false := by simp; omega
    have e2 := int_beq_self (numV s.data.toList)
    generalize hn : numV s.data.toList = n at e2
    generalize hb : numB s.data.toList = b
    generalize hp : pathB s.data.toList = p
    have HN := Lib.hid hn
    have HB := Lib.hid hb
    have HP := Lib.hid hp
    clear hn hb hp
    go_enter Try.func3, Try.ntmps3
    go_wp2_with fail
    refine (shown_any w).mono ?_
    rintro e w1 ⟨rfl, hb1⟩
    go_wp2_with fail
    have hc := number_any s hs w1
    unfold NumPost at hc
    rw [HN.out, HB.out] at hc
    refine hc.mono ?_
    rintro e w2 ⟨rfl, rfl⟩
    clear hc
    go_wp2_with fail
    have hc := refNumber_any s hs w1
    unfold NumPost at hc
    rw [HN.out, HB.out] at hc
    refine hc.mono ?_
    rintro e w2 ⟨rfl, rfl⟩
    clear hc
    cases b
    all_goals
      go_wp2_with fail
      have hc := path_any s hs w1
      rw [HP.out] at hc
      refine hc.mono ?_
      rintro e w3 ⟨rfl, hb3⟩
      clear hc
      go_wp2_with fail
      have hc := refPath_any s w3
      rw [HP.out] at hc
      refine hc.mono ?_
      rintro e w4 ⟨rfl, rfl⟩
      clear hc
      cases p
      all_goals
        go_wp2_with fail
        go_ret
        exact ⟨rfl, hb1.trans (hb3.mono hb1.size)⟩

set_option maxRecDepth 100000 in
theorem textTells_lifted (os : Os) (started : os.Started) (H : Type) (enc : TypeId × Value → H) :
    ReturnsInHanded {} Try.checked os 3 .any (Rows.textTellsSpec.pre6 enc Try.prog Try.f3 Rows.textTellsRow.domain false) (Rows.textTellsSpec.post enc Try.prog Try.f3 false true false false) := by
  refine returnsInHanded_of_change (C := Try.checked) own_knob started (by kernel_rfl) Try.func3
    (ChangeSpec.witness6 (enc := enc) (C := Try.checked) false ⟨#[], #[.string ⟨#[]⟩], []⟩ 8 (by kernel_rfl) (by kernel_rfl) (by kernel_rfl) (by kernel_rfl)) ?_
  intro W base args ds gs before hval0 hW _ _
  have hval : ∀ (j : Nat) t v, Try.f3.params[j]? = some t → args[j]? = some v → Value.okWide Try.prog W .any base t v := hval0
  have hW' := hW
  obtain ⟨p, q, hA0, hV, rfl, hfz, hnd⟩ := hW
  have hA : DataW.TrodAll enc Try.prog W 0 (fun _ => true) true Try.f3.params.toList args.toList ds p := hA0
  rw [Try.params3] at hA hval
  obtain ⟨v0, d0, rfl, rfl, h0⟩ := trodAll_one hA
  obtain ⟨s0, rfl, rfl, rfl, ws0⟩ := Go.ChangeMaps.open_string Try.underlying9 (hval 0 9 v0 rfl rfl) h0
  obtain ⟨rfl, rfl⟩ := trodVars_none hV
  clear hA0 hval0
  simp only [List.append_nil] at hW'
  refine (textTells_walk s0 ws0 W).mono fun e W' h => ⟨.bool true, h.1, ?_⟩
  exact post_true hW' rfl (by kernel_rfl) Try.underlying4 rfl (fun sp _ => trodAll_mk1 (Go.ChangeMaps.shut_string Try.underlying9 ws0)) h.2

theorem textTells_holds : Rows.TextTellsSaid :=
  OpenClaim.holds_of_wide 3 Try.f3 rfl rfl rfl rfl rfl rfl rfl ⟨rfl, rfl, rfl, rfl, rfl⟩ rfl rfl rfl rfl rfl (by kernel_rfl) Try.func3 (by kernel_rfl)
    (of_decide_eq_true (by kernel_rfl)) (by unfold Func.isWrapper; first | (rw [if_pos (by decide +kernel)]; kernel_rfl) | (rw [if_neg (by decide +kernel)]; exact ⟨rfl, rfl⟩))
    (fun os started H enc _ => textTells_lifted os started H enc)

end Go.Proofs.Ytebamellddoaeaa
