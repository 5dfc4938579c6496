/-
  ParseRows: two rows of lines that are right are so one behind the other, and say what both say; each node has the number of a line: for every argument. No condition.
-/
import Derived.Test.YtldddecaeloohaaDoorCards
import Derived.Test.YtldddecaeloohaaDoorTie
import Derived.Deep.DeepHandedRow
import Derived.Lib.LaidTab
import Derived.OpenShut
import Derived.Test.YtldddecaeloohaaDoorLawRowsPW
import Derived.Test.YtldddecaeloohaaDoorQPC
import Derived.Test.YtldddecaeloohaaDoorQArg
namespace Go.Proofs.YtldddecaeloohaaDoor
open Go.ChangeShapes Go.WideShapes Go.ChangeAt Go.RowKit

theorem parseRows_walk (v0 : Value) (xs0 : List LineI) (hn0 : xs0.length ≤ maxLen) (v1 : Value) (xs1 : List LineI) (hn1 : xs1.length ≤ maxLen) (w : World) (hr0 : ReadsL w w.heap.size v0 xs0) (hr1 : ReadsL w w.heap.size v1 xs1) : Calls Tryd.prog 7 #[v0, v1] w (LawPost w) := parseRows_over parse_any v0 v1 xs0 xs1 w hr0 hr1 hn0 hn1

def setCells (cs : Array Value) : Obj → Obj
  | .cells _ t frozen => .cells cs t frozen
  | o => o
/-- The world for the witness: the two tables of package utf8 hold what they are laid with. -/
noncomputable def tables (os : Go.Os) : World :=
  { World.holding Tryd.prog os ⟨#[], #[], []⟩ with heap := ((World.holding Tryd.prog os ⟨#[], #[], []⟩).heap.modify 1 (setCells (Go.Pinned.utf8FirstZ.map fun n : Nat => Value.int .u8 (n : Int)).toArray)).modify 2 (setCells (([128, 191, 160, 191, 128, 159, 144, 191, 128, 143, 0, 0, 0, 0, 0, 0, 0, 0, 0, 0, 0, 0, 0, 0, 0, 0, 0, 0, 0, 0, 0, 0] : List Nat).map fun n : Nat => Value.int .u8 (n : Int)).toArray) }

set_option maxRecDepth 100000 in
theorem parseRows_laid (os : Go.Os) : laidMet Tryd.prog Rows.parseRowsRow.laid ((tables os).forCall (fun _ _ => 0) ⟨#[], #[.slice none 0 0, .slice none 0 0], []⟩).memory :=
  laidMet_of_run' 8 (by kernel_rfl) (by kernel_rfl)
theorem parseRows_reads (os : Go.Os) {H : Type} (enc : TypeId × Value → H) : ∃ places, DataW.whole enc Tryd.prog ((tables os).forCall (fun _ _ => 0) ⟨#[], #[.slice none 0 0, .slice none 0 0], []⟩).memory Tryd.f7.params.toList Rows.parseRowsSpec.vars false #[.slice none 0 0, .slice none 0 0].toList 8 = some ([.nil, .nil], [], places) :=
  ⟨[], by kernel_rfl⟩

set_option maxRecDepth 100000 in
theorem parseRows_calls (H : Type) (enc : TypeId × Value → H) (W : World) (base : Nat) (args : Array Value) (ds gs : List (DataW H)) (before : List MemPlace)
    (hval : ∀ (j : Nat) t v, Tryd.f7.params[j]? = some t → args[j]? = some v → Value.okWide Tryd.prog W .any base t v)
    (hW : DataW.Whole enc Tryd.prog Tryd.f7.params.toList Rows.parseRowsSpec.vars false W args.toList ds gs before) :
    Calls Tryd.prog 7 args W fun e W' => ∃ v, e = .returned v ∧ Rows.parseRowsSpec.post enc Tryd.prog Tryd.f7 false true false false W args v W' := by
  have hW' := hW
  obtain ⟨p, q, hA0, hV, rfl, hfz, hnd⟩ := hW
  have hA : DataW.TrodAll enc Tryd.prog W 0 (fun _ => true) true Tryd.f7.params.toList args.toList ds p := hA0
  have hlt : ∀ x ∈ p, x.block < W.heap.size := fun x hx => hW'.lt x (List.mem_append_left _ hx)
  rw [Tryd.params7] at hA hval
  obtain ⟨v0, v1, d0, d1, p0, p1, rfl, rfl, rfl, h0, h1⟩ := trodAll_two hA
  obtain ⟨⟨xs0, hn0, hr0⟩, hback0⟩ := open_lines (hval 0 23 v0 rfl rfl) h0 (fun x hx => hlt x (by simp [hx]))
  obtain ⟨⟨xs1, hn1, hr1⟩, hback1⟩ := open_lines (hval 1 23 v1 rfl rfl) h1 (fun x hx => hlt x (by simp [hx]))
  obtain ⟨rfl, rfl⟩ := trodVars_none hV
  clear hA0
  simp only [List.append_nil] at hW'
  refine (parseRows_walk v0 xs0 hn0 v1 xs1 hn1 W hr0 hr1).mono fun e W' h => ⟨.bool true, h.1, ?_⟩
  exact post_true_at hW' rfl (by kernel_rfl) Tryd.underlying4 rfl (trodAll_mk2 (hback0 W' h.2) (hback1 W' h.2)) h.2

set_option maxRecDepth 100000 in
theorem parseRows_lifted (os : Go.Os) (started : os.Started) (H : Type) (enc : TypeId × Value → H) (F : Stop.Interp) :
    ReturnsInHanded {} Tryd.checked os 7 .any ((OpenSpec.ofChange Rows.parseRowsSpec).preRow enc Tryd.prog Tryd.f7 Rows.parseRowsRow.domain false Rows.parseRowsRow.laid) (((OpenSpec.ofChange Rows.parseRowsSpec).at F).post enc Tryd.prog Tryd.f7 false true false false) := by
  obtain ⟨places, hx⟩ := parseRows_reads os enc
  refine returnsInHanded_of_row (C := Tryd.checked) (s := OpenSpec.ofChange Rows.parseRowsSpec) own_knob started (by kernel_rfl) Tryd.func7
    (witness_row_at (enc := enc) (C := Tryd.checked) false (tables os) #[.slice none 0 0, .slice none 0 0] rfl (by kernel_rfl) (by kernel_rfl) (by kernel_rfl)
      (OpenSpec.preRow_of_cond 8 hx (by kernel_rfl) (fun k hk => by cases hk) (by kernel_rfl) (parseRows_laid os))) ?_
  intro W base args ds gs before hval hW _ _ _ _ _ _
  exact parseRows_calls H enc W base args ds gs before hval hW

set_option maxRecDepth 100000 in
theorem parseRows_said : Rows.ParseRowsSaid :=
  OpenClaim.holds_of_cond 7 Tryd.f7 rfl rfl rfl rfl rfl rfl rfl ⟨rfl, rfl, rfl, rfl, rfl⟩ rfl rfl rfl rfl rfl (by kernel_rfl) Tryd.func7 (by kernel_rfl)
    (of_decide_eq_true (by kernel_rfl)) (by unfold Func.isWrapper; first | (rw [if_pos (by decide +kernel)]; kernel_rfl) | (rw [if_neg (by decide +kernel)]; exact ⟨rfl, rfl⟩))
    (fun os started H enc _ F => by rw [OpenClaim.pre_eq_preRow]; exact parseRows_lifted os started H enc F)

set_option maxRecDepth 100000 in
theorem parseRows_plain (f : FuncId) (fn : Func) (hf : Tryd.pinned.checked.prog.funcNamed "cooperage/cooperagelaw9.ParseRows" = some f) (hfn : Tryd.pinned.checked.prog.funcs[f]? = some fn) :
    false = Tryd.pinned.checked.prog.looks [] ∧ ∀ (j : Nat) t, fn.params[j]? = some t → Tryd.pinned.checked.prog.wantsStandIn t = false := by
  obtain rfl : f = 7 := Option.some.inj ((show Tryd.prog.funcNamed "cooperage/cooperagelaw9.ParseRows" = some 7 by kernel_rfl).symm.trans hf) |>.symm
  obtain rfl : fn = Tryd.f7 := (Option.some.inj (Tryd.func7.symm.trans hfn)).symm
  refine ⟨by kernel_rfl, fun j t ht => ?_⟩
  rw [Tryd.params7] at ht
  have hmem := Array.mem_of_getElem? ht
  simp only [List.mem_toArray, List.mem_cons, List.mem_nil_iff, or_false] at hmem
  have hone : ∀ t, (t = 23) → Tryd.pinned.checked.prog.wantsStandIn t = false := by
    rintro t (rfl)
    · exact (show Tryd.prog.wantsStandIn 23 = false by kernel_rfl)
  exact hone t (by first | exact hmem | (rcases hmem with h | h | h | h <;> (subst h; decide)) | (rcases hmem with h | h | h <;> (subst h; decide)) | (rcases hmem with h | h <;> (subst h; decide)))

set_option maxRecDepth 100000 in
theorem parseRows_card : Rows.ParseRowsCardSaid :=
  Claim7.holds_tied_plain_at .later [] _ _ _ _ parseRows_said (fun _ h => by cases h) (by kernel_rfl) (fun _ h => by cases h) parseRows_row_tie rfl ⟨rfl, rfl⟩ (by kernel_rfl) rfl parseRows_plain (by kernel_rfl)

end Go.Proofs.YtldddecaeloohaaDoor
