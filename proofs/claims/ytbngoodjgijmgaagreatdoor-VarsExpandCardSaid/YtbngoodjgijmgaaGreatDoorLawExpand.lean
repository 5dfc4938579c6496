/-
  VarsExpand: what a text expands to, or what is wrong, and what a variable is: as the document says, for all variables, every text, every name. No condition.
-/
import Derived.Deep.DeepHandedRow
import Derived.Lib.LaidTab
import Derived.OpenShut
import Derived.Test.YtbngoodjgijmgaaGreatDoorCards
import Derived.Test.YtbngoodjgijmgaaGreatDoorTie
import Derived.Test.YtbngoodjgijmgaaGreatDoorLawExpandW
import Derived.Test.YtbngoodjgijmgaaGreatDoorRW
import Derived.Test.YtbngoodjgijmgaaGreatDoorVArg
namespace Go.Proofs.YtbngoodjgijmgaaGreatDoor
open Go.ChangeShapes Go.WideShapes Go.ChangeAt Go.RowKit

set_option maxRecDepth 100000 in
theorem varsExpand_laid (os : Go.Os) : laidMet Tryz.prog Rows.varsExpandRow.laid ((tables os).forCall (fun _ _ => 0) ⟨#[], #[.slice none 0 0, .string ⟨#[]⟩, .string ⟨#[]⟩], []⟩).memory :=
  laidMet_of_run' 8 (by kernel_rfl) (by kernel_rfl)
theorem varsExpand_reads (os : Go.Os) {H : Type} (enc : TypeId × Value → H) : ∃ places, DataW.whole enc Tryz.prog ((tables os).forCall (fun _ _ => 0) ⟨#[], #[.slice none 0 0, .string ⟨#[]⟩, .string ⟨#[]⟩], []⟩).memory Tryz.f3.params.toList Rows.varsExpandSpec.vars false #[.slice none 0 0, .string ⟨#[]⟩, .string ⟨#[]⟩].toList 8 = some ([.nil, .lit (.string []), .lit (.string [])], [], places) :=
  ⟨[], by kernel_rfl⟩

set_option maxRecDepth 100000 in
theorem varsExpand_calls (H : Type) (enc : TypeId × Value → H) (W : World) (base : Nat) (args : Array Value) (ds gs : List (DataW H)) (before : List MemPlace)
    (hval : ∀ (j : Nat) t v, Tryz.f3.params[j]? = some t → args[j]? = some v → Value.okWide Tryz.prog W .any base t v)
    (hW : DataW.Whole enc Tryz.prog Tryz.f3.params.toList Rows.varsExpandSpec.vars false W args.toList ds gs before) (hst : Std W) :
    Calls Tryz.prog 3 args W fun e W' => ∃ v, e = .returned v ∧ Rows.varsExpandSpec.post enc Tryz.prog Tryz.f3 false true false false W args v W' := by
  have hW' := hW
  obtain ⟨p, q, hA0, hV, rfl, hfz, hnd⟩ := hW
  have hA : DataW.TrodAll enc Tryz.prog W 0 (fun _ => true) true Tryz.f3.params.toList args.toList ds p := hA0
  have hlt : ∀ x ∈ p, x.block < W.heap.size := fun x hx => hW'.lt x (List.mem_append_left _ hx)
  rw [Tryz.params3] at hA hval
  obtain ⟨v0, v1, v2, d0, d1, d2, p0, p1, p2, rfl, rfl, rfl, h0, h1, h2⟩ := trodAll_three hA
  obtain ⟨⟨o0, n0, c0, xs0, rfl, hn0, hr0, hz0⟩, hback0⟩ := open_vars (hval 0 22 v0 rfl rfl) h0 (fun x hx => hlt x (by simp [hx]))
  obtain ⟨s1, rfl, rfl, rfl, ws1⟩ := Go.ChangeMaps.open_string Tryz.underlying9 (hval 1 9 v1 rfl rfl) h1
  obtain ⟨s2, rfl, rfl, rfl, ws2⟩ := Go.ChangeMaps.open_string Tryz.underlying9 (hval 2 9 v2 rfl rfl) h2
  obtain ⟨rfl, rfl⟩ := trodVars_none hV
  clear hA0
  simp only [List.append_nil] at hW'
  refine (varsExpand_walk o0 n0 c0 xs0 hn0 hz0 s1 ws1 s2 ws2 W hst hr0).mono fun e W' h => ⟨.bool true, h.1, ?_⟩
  exact post_true_at hW' rfl (by kernel_rfl) Tryz.underlying4 rfl (by have hh := trodAll_mk3 (hback0 W' h.2) (Go.ChangeMaps.shut_string Tryz.underlying9 ws1) (Go.ChangeMaps.shut_string Tryz.underlying9 ws2); simp only [List.append_nil] at hh; exact hh) h.2

set_option maxRecDepth 100000 in
theorem varsExpand_lifted (os : Go.Os) (started : os.Started) (H : Type) (enc : TypeId × Value → H) (F : Stop.Interp) :
    ReturnsInHanded {} Tryz.checked os 3 .any ((OpenSpec.ofChange Rows.varsExpandSpec).preRow enc Tryz.prog Tryz.f3 Rows.varsExpandRow.domain false Rows.varsExpandRow.laid) (((OpenSpec.ofChange Rows.varsExpandSpec).at F).post enc Tryz.prog Tryz.f3 false true false false) := by
  obtain ⟨places, hx⟩ := varsExpand_reads os enc
  refine returnsInHanded_of_row (C := Tryz.checked) (s := OpenSpec.ofChange Rows.varsExpandSpec) own_knob started (by kernel_rfl) Tryz.func3
    (witness_row_at (enc := enc) (C := Tryz.checked) false (tables os) #[.slice none 0 0, .string ⟨#[]⟩, .string ⟨#[]⟩] rfl (by kernel_rfl) (by kernel_rfl) (by kernel_rfl)
      (OpenSpec.preRow_of_cond 8 hx (by kernel_rfl) (fun k hk => by cases hk) (by kernel_rfl) (varsExpand_laid os))) ?_
  intro W base args ds gs before hval hW _ _ _ hlaid hsh _
  exact varsExpand_calls H enc W base args ds gs before hval hW (std_of_laid hlaid hsh)

set_option maxRecDepth 100000 in
theorem varsExpand_said : Rows.VarsExpandSaid :=
  OpenClaim.holds_of_cond 3 Tryz.f3 rfl rfl rfl rfl rfl rfl rfl ⟨rfl, rfl, rfl, rfl, rfl⟩ rfl rfl rfl rfl rfl (by kernel_rfl) Tryz.func3 (by kernel_rfl)
    (of_decide_eq_true (by kernel_rfl)) (by unfold Func.isWrapper; first | (rw [if_pos (by decide +kernel)]; kernel_rfl) | (rw [if_neg (by decide +kernel)]; exact ⟨rfl, rfl⟩))
    (fun os started H enc _ F => by rw [OpenClaim.pre_eq_preRow]; exact varsExpand_lifted os started H enc F)

set_option maxRecDepth 100000 in
theorem varsExpand_plain (f : FuncId) (fn : Func) (hf : Tryz.pinned.checked.prog.funcNamed "cooperage/cooperagelaw11.VarsExpand" = some f) (hfn : Tryz.pinned.checked.prog.funcs[f]? = some fn) :
    false = Tryz.pinned.checked.prog.looks [] ∧ ∀ (j : Nat) t, fn.params[j]? = some t → Tryz.pinned.checked.prog.wantsStandIn t = false := by
  obtain rfl : f = 3 := Option.some.inj ((show Tryz.prog.funcNamed "cooperage/cooperagelaw11.VarsExpand" = some 3 by kernel_rfl).symm.trans hf) |>.symm
  obtain rfl : fn = Tryz.f3 := (Option.some.inj (Tryz.func3.symm.trans hfn)).symm
  refine ⟨by kernel_rfl, fun j t ht => ?_⟩
  rw [Tryz.params3] at ht
  have hmem := Array.mem_of_getElem? ht
  simp only [List.mem_toArray, List.mem_cons, List.mem_nil_iff, or_false] at hmem
  have hone : ∀ t, (t = 22 ∨ t = 9) → Tryz.pinned.checked.prog.wantsStandIn t = false := by
    rintro t (rfl | rfl)
    · exact (show Tryz.prog.wantsStandIn 22 = false by kernel_rfl)
    · exact (show Tryz.prog.wantsStandIn 9 = false by kernel_rfl)
  exact hone t (by first | exact hmem | (rcases hmem with h | h | h | h <;> (subst h; decide)) | (rcases hmem with h | h | h <;> (subst h; decide)) | (rcases hmem with h | h <;> (subst h; decide)))

set_option maxRecDepth 100000 in
theorem varsExpand_card : Rows.VarsExpandCardSaid :=
  Claim7.holds_tied_plain_at .later [] _ _ _ _ varsExpand_said (fun _ h => by cases h) (by kernel_rfl) (fun _ h => by cases h) varsExpand_row_tie rfl ⟨rfl, rfl⟩ (by kernel_rfl) rfl varsExpand_plain (by kernel_rfl)

end Go.Proofs.YtbngoodjgijmgaaGreatDoor
