/-
  TextQuotes: a text as a quoted word, and what a quoted word stands for, or that it is none, is as the chapter says: for every text. No condition.
-/
import Derived.Test.YtebamellddoaeaaRow
import Derived.Test.YtebamellddoaeaaRefU
namespace Go.Proofs.Ytebamellddoaeaa
open Go.ChangeShapes Go.WideShapes Go.ChangeAt Go.RowKit

theorem unq_same (s : ByteArray) : ∃ (v : ByteArray) (k : Int), ∀ e, UnqIs s.data.toList e → e = .returned (.tuple #[.string v, .int .i64 k]) := by
  by_cases h : ∃ t, quoteOf t = s.data.toList
  · obtain ⟨t, ht⟩ := h
    exact ⟨txt t, 0, fun e he => he.1 t ht⟩
  · exact ⟨txt [], 2, fun e he => he.2 (fun t ht => h ⟨t, ht⟩)⟩

set_option maxRecDepth 100000 in
set_option maxHeartbeats 2000000 in
theorem textQuotes_walk (s : ByteArray) (_hs : s.size ≤ maxLen) (w : World) : Calls Try.prog 4 #[.string s] w fun e w' => e = .returned (.bool true) ∧ Below w.heap.size w w' := by
  by_cases h : 600 < s.size
  · have e1 : decide (600 < (s.size : Int)) = true := by simp; omega
    go_enter Try.func4, Try.ntmps4
    go_wp2_with fail
    refine (shown_any w).mono ?_
    rintro e w1 ⟨rfl, hb1⟩
    go_wp2_with fail
    go_ret
    exact ⟨rfl, hb1⟩
  · have e1 : decide (600 < (s.size : Int)) = false := by simp; omega
    obtain ⟨v, k, hv⟩ := unq_same s
    have hu := fun w => (unquote_any s (by omega) w).mono (R' := fun e w' => e = .returned (.tuple #[.string v, .int .i64 k]) ∧ Below w.heap.size w w') (fun e w' h => ⟨hv e h.1, h.2⟩)
    have hr := fun w => (refUnquote_any s (by omega) w).mono (R' := fun e w' => e = .returned (.tuple #[.string v, .int .i64 k]) ∧ Below w.heap.size w w') (fun e w' h => ⟨hv e h.1, h.2⟩)
    have HU := Lib.hid hu
    have HR := Lib.hid hr
    have hq := fun w => quote_any s (by omega) w
    have hq2 := fun w => refQuote_any s (by omega) w
    generalize txt (quoteOf s.data.toList) = q at hq hq2
    have HQ := Lib.hid hq
    have HQ2 := Lib.hid hq2
    have f1 : (q.toList == q.toList) = true := by simp
    have f2 : (v.toList == v.toList) = true := by simp
    have f3 := int_beq_self k
    clear hu hr hv hq hq2
    go_enter Try.func4, Try.ntmps4
    go_wp2_with fail
    refine (shown_any w).mono ?_
    rintro e w1 ⟨rfl, hb1⟩
    go_wp2_with fail
    refine (HU.out w1).mono ?_
    rintro e w2 ⟨rfl, hb2⟩
    have hb12 := hb1.trans (hb2.mono hb1.size)
    go_wp2_with fail
    refine (HR.out w2).mono ?_
    rintro e w3 ⟨rfl, hb3⟩
    have hb13 := hb12.trans (hb3.mono hb12.size)
    go_wp2_with fail
    refine (HQ.out w3).mono ?_
    rintro e w4 ⟨rfl, hb4⟩
    have hb14 := hb13.trans (hb4.mono hb13.size)
    go_wp2_with fail
    refine (HQ2.out w4).mono ?_
    rintro e w5 ⟨rfl, m, rfl⟩
    go_wp2_with fail
    go_ret
    exact ⟨rfl, below_drewN hb14 m⟩

set_option maxRecDepth 100000 in
theorem textQuotes_lifted (os : Os) (started : os.Started) (H : Type) (enc : TypeId × Value → H) :
    ReturnsInHanded {} Try.checked os 4 .any (Rows.textQuotesSpec.pre6 enc Try.prog Try.f4 Rows.textQuotesRow.domain false) (Rows.textQuotesSpec.post enc Try.prog Try.f4 false true false false) := by
  refine returnsInHanded_of_change (C := Try.checked) own_knob started (by kernel_rfl) Try.func4
    (ChangeSpec.witness6 (enc := enc) (C := Try.checked) false ⟨#[], #[.string ⟨#[]⟩], []⟩ 8 (by kernel_rfl) (by kernel_rfl) (by kernel_rfl) (by kernel_rfl)) ?_
  intro W base args ds gs before hval0 hW _ _
  have hval : ∀ (j : Nat) t v, Try.f4.params[j]? = some t → args[j]? = some v → Value.okWide Try.prog W .any base t v := hval0
  have hW' := hW
  obtain ⟨p, q, hA0, hV, rfl, hfz, hnd⟩ := hW
  have hA : DataW.TrodAll enc Try.prog W 0 (fun _ => true) true Try.f4.params.toList args.toList ds p := hA0
  rw [Try.params4] at hA hval
  obtain ⟨v0, d0, rfl, rfl, h0⟩ := trodAll_one hA
  obtain ⟨s0, rfl, rfl, rfl, ws0⟩ := Go.ChangeMaps.open_string Try.underlying9 (hval 0 9 v0 rfl rfl) h0
  obtain ⟨rfl, rfl⟩ := trodVars_none hV
  clear hA0 hval0
  simp only [List.append_nil] at hW'
  refine (textQuotes_walk s0 ws0 W).mono fun e W' h => ⟨.bool true, h.1, ?_⟩
  exact post_true hW' rfl (by kernel_rfl) Try.underlying4 rfl (fun sp _ => trodAll_mk1 (Go.ChangeMaps.shut_string Try.underlying9 ws0)) h.2

theorem textQuotes_holds : Rows.TextQuotesSaid :=
  OpenClaim.holds_of_wide 4 Try.f4 rfl rfl rfl rfl rfl rfl rfl ⟨rfl, rfl, rfl, rfl, rfl⟩ rfl rfl rfl rfl rfl (by kernel_rfl) Try.func4 (by kernel_rfl)
    (of_decide_eq_true (by kernel_rfl)) (by unfold Func.isWrapper; first | (rw [if_pos (by decide +kernel)]; kernel_rfl) | (rw [if_neg (by decide +kernel)]; exact ⟨rfl, rfl⟩))
    (fun os started H enc _ => textQuotes_lifted os started H enc)

end Go.Proofs.Ytebamellddoaeaa
