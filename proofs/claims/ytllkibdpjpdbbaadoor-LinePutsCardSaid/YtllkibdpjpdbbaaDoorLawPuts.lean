/-
  LinePuts: the line of some texts, or what is wrong, is as the chapter says: for every list of texts, with the two tables of package utf8 as the program's text lays them. No condition.
-/
import Derived.Test.YtllkibdpjpdbbaaDoorCards
import Derived.Test.YtllkibdpjpdbbaaDoorTie
import Derived.Deep.DeepHandedRow
import Derived.Lib.LaidTab
import Derived.OpenShut
import Derived.Test.YtllkibdpjpdbbaaDoorLRowLL
import Derived.Test.YtllkibdpjpdbbaaDoorLRPut
import Derived.Test.YtllkibdpjpdbbaaDoorLSmall
import Derived.Test.YtllkibdpjpdbbaaDoorLPutDet
namespace Go.Proofs.YtllkibdpjpdbbaaDoor
open Go.ChangeShapes Go.WideShapes Go.ChangeAt Go.RowKit

set_option maxRecDepth 100000 in
set_option maxHeartbeats 2000000 in
theorem linePuts_walk (v : Value) (xs : List ByteArray) (hn : xs.length ≤ maxLen) (hz : ∀ x ∈ xs, x.size ≤ maxLen) (w : World) (hr : ReadsO w w.heap.size v xs) : Calls Tryd.prog 3 #[v] w (LawPost w) := by
  have HW := Lib.hid shown_any
  cases hs : smallB xs with
  | false =>
    have HS : Hid (∀ w1 : World, Below w.heap.size w w1 → Calls Tryd.prog 11 #[v] w1 fun e w' => e = .returned (.bool false) ∧ w1 = w') := fun w1 hb => by
      have := small_any v xs w.heap.size w1 (hr.below hb (Nat.le_refl _)) hn hz
      rwa [hs] at this
    obtain ⟨o, c, rfl, _⟩ := hr
    clear hs hz
    go_enter Tryd.func3, Tryd.ntmps3
    go_wp2_with fail
    refine (HW.out _).mono ?_
    rintro e w1 ⟨rfl, hb1⟩
    go_wp2_with fail
    refine (HS.out w1 hb1).mono ?_
    rintro e w2 ⟨rfl, rfl⟩
    go_wp2_with fail
    go_ret
    exact ⟨rfl, hb1⟩
  | true =>
    have HS : Hid (∀ w1 : World, Below w.heap.size w w1 → Calls Tryd.prog 11 #[v] w1 fun e w' => e = .returned (.bool true) ∧ w1 = w') := fun w1 hb => by
      have := small_any v xs w.heap.size w1 (hr.below hb (Nat.le_refl _)) hn hz
      rwa [hs] at this
    obtain ⟨_, h14⟩ := small_all hs
    obtain ⟨t, cd, hdet, _, _⟩ := put_det (rawOf xs)
    have hx : ∀ x ∈ xs, x.size ≤ 1000000 := fun x hx => by have := h14 x hx; omega
    have HP : Hid (∀ w1 : World, Below w.heap.size w w1 → Calls Tryd.prog 12 #[v] w1 fun e w' => e = .returned (.tuple #[.string t, .int .i64 cd]) ∧ Below w1.heap.size w1 w') := fun w1 hb =>
      (put_any v xs w1 (hr.below hb hb.size) hn hx).mono fun e w' h => ⟨hdet e h.1, h.2⟩
    have HR : Hid (∀ w1 : World, Below w.heap.size w w1 → Calls Tryd.prog 13 #[v] w1 fun e w' => e = .returned (.tuple #[.string t, .int .i64 cd]) ∧ Below w1.heap.size w1 w') := fun w1 hb =>
      (rput_any v xs w1 (hr.below hb hb.size) hn hx).mono fun e w' h => ⟨hdet e h.1, h.2⟩
    have e1 : (t.toList == t.toList) = true := by simp
    have e2 : (cd == cd) = true := by simp
    obtain ⟨o, c, rfl, _⟩ := hr
    clear hs hz hdet h14 hx
    go_enter Tryd.func3, Tryd.ntmps3
    go_wp2_with fail
    refine (HW.out _).mono ?_
    rintro e w1 ⟨rfl, hb1⟩
    go_wp2_with fail
    refine (HS.out w1 hb1).mono ?_
    rintro e w2 ⟨rfl, rfl⟩
    go_wp2_with fail
    refine (HP.out w1 hb1).mono ?_
    rintro e w2 ⟨rfl, hb2⟩
    have hB2 := below2 hb1 hb2
    go_wp2_with fail
    refine (HR.out w2 hB2).mono ?_
    rintro e w3 ⟨rfl, hb3⟩
    go_wp2_with fail
    go_ret
    exact ⟨rfl, below2 hB2 hb3⟩

def setCells (cs : Array Value) : Obj → Obj
  | .cells _ t frozen => .cells cs t frozen
  | o => o
/-- The world for the witness: the two tables of package utf8 hold what they are laid with. -/
noncomputable def tables (os : Os) : World :=
  { World.holding Tryd.prog os ⟨#[], #[], []⟩ with heap := ((World.holding Tryd.prog os ⟨#[], #[], []⟩).heap.modify 1 (setCells (Go.Pinned.utf8FirstZ.map fun n : Nat => Value.int .u8 (n : Int)).toArray)).modify 2 (setCells (([128, 191, 160, 191, 128, 159, 144, 191, 128, 143, 0, 0, 0, 0, 0, 0, 0, 0, 0, 0, 0, 0, 0, 0, 0, 0, 0, 0, 0, 0, 0, 0] : List Nat).map fun n : Nat => Value.int .u8 (n : Int)).toArray) }

set_option maxRecDepth 100000 in
theorem linePuts_laid (os : Os) : laidMet Tryd.prog Rows.linePutsRow.laid ((tables os).forCall (fun _ _ => 0) ⟨#[], #[.slice none 0 0], []⟩).memory :=
  laidMet_of_run' 8 (by kernel_rfl) (by kernel_rfl)
theorem linePuts_reads (os : Os) {H : Type} (enc : TypeId × Value → H) : ∃ places, DataW.whole enc Tryd.prog ((tables os).forCall (fun _ _ => 0) ⟨#[], #[.slice none 0 0], []⟩).memory Tryd.f3.params.toList Rows.linePutsSpec.vars false #[.slice none 0 0].toList 8 = some ([.nil], [], places) :=
  ⟨[], by kernel_rfl⟩

set_option maxRecDepth 100000 in
theorem linePuts_calls (H : Type) (enc : TypeId × Value → H) (W : World) (base : Nat) (args : Array Value) (ds gs : List (DataW H)) (before : List MemPlace)
    (hval : ∀ (j : Nat) t v, Tryd.f3.params[j]? = some t → args[j]? = some v → Value.okWide Tryd.prog W .any base t v)
    (hW : DataW.Whole enc Tryd.prog Tryd.f3.params.toList Rows.linePutsSpec.vars false W args.toList ds gs before) :
    Calls Tryd.prog 3 args W fun e W' => ∃ v, e = .returned v ∧ Rows.linePutsSpec.post enc Tryd.prog Tryd.f3 false true false false W args v W' := by
  have hW' := hW
  obtain ⟨p, q, hA0, hV, rfl, hfz, hnd⟩ := hW
  have hA : DataW.TrodAll enc Tryd.prog W 0 (fun _ => true) true Tryd.f3.params.toList args.toList ds p := hA0
  have hlt : ∀ x ∈ p, x.block < W.heap.size := fun x hx => hW'.lt x (List.mem_append_left _ hx)
  rw [Tryd.params3] at hA hval
  obtain ⟨v0, d0, rfl, rfl, h0⟩ := trodAll_one hA
  obtain ⟨⟨xs0, hn0, hz0, hr0, _⟩, hback0⟩ := open_list (hval 0 22 v0 rfl rfl) h0 (fun x hx => hlt x (by simp [hx]))
  obtain ⟨rfl, rfl⟩ := trodVars_none hV
  clear hA0
  simp only [List.append_nil] at hW'
  refine (linePuts_walk v0 xs0 hn0 hz0 W hr0.reads).mono fun e W' h => ⟨.bool true, h.1, ?_⟩
  exact post_true_at hW' rfl (by kernel_rfl) Tryd.underlying4 rfl (trodAll_mk1 (hback0 W' h.2)) h.2

set_option maxRecDepth 100000 in
theorem linePuts_lifted (os : Os) (started : os.Started) (H : Type) (enc : TypeId × Value → H) (F : Stop.Interp) :
    ReturnsInHanded {} Tryd.checked os 3 .any ((OpenSpec.ofChange Rows.linePutsSpec).preRow enc Tryd.prog Tryd.f3 Rows.linePutsRow.domain false Rows.linePutsRow.laid) (((OpenSpec.ofChange Rows.linePutsSpec).at F).post enc Tryd.prog Tryd.f3 false true false false) := by
  obtain ⟨places, hx⟩ := linePuts_reads os enc
  refine returnsInHanded_of_row (C := Tryd.checked) (s := OpenSpec.ofChange Rows.linePutsSpec) own_knob started (by kernel_rfl) Tryd.func3
    (witness_row_at (enc := enc) (C := Tryd.checked) false (tables os) #[.slice none 0 0] rfl (by kernel_rfl) (by kernel_rfl) (by kernel_rfl)
      (OpenSpec.preRow_of_cond 8 hx (by kernel_rfl) (fun k hk => by cases hk) (by kernel_rfl) (linePuts_laid os))) ?_
  intro W base args ds gs before hval hW _ _ _ _ _ _
  exact linePuts_calls H enc W base args ds gs before hval hW

set_option maxRecDepth 100000 in
theorem linePuts_said : Rows.LinePutsSaid :=
  OpenClaim.holds_of_cond 3 Tryd.f3 rfl rfl rfl rfl rfl rfl rfl ⟨rfl, rfl, rfl, rfl, rfl⟩ rfl rfl rfl rfl rfl (by kernel_rfl) Tryd.func3 (by kernel_rfl)
    (of_decide_eq_true (by kernel_rfl)) (by unfold Func.isWrapper; first | (rw [if_pos (by decide +kernel)]; kernel_rfl) | (rw [if_neg (by decide +kernel)]; exact ⟨rfl, rfl⟩))
    (fun os started H enc _ F => by rw [OpenClaim.pre_eq_preRow]; exact linePuts_lifted os started H enc F)

set_option maxRecDepth 100000 in
theorem linePuts_plain (f : FuncId) (fn : Func) (hf : Tryd.pinned.checked.prog.funcNamed "cooperage/cooperagelaw4.LinePuts" = some f) (hfn : Tryd.pinned.checked.prog.funcs[f]? = some fn) :
    false = Tryd.pinned.checked.prog.looks [] ∧ ∀ (j : Nat) t, fn.params[j]? = some t → Tryd.pinned.checked.prog.wantsStandIn t = false := by
  obtain rfl : f = 3 := Option.some.inj ((show Tryd.prog.funcNamed "cooperage/cooperagelaw4.LinePuts" = some 3 by kernel_rfl).symm.trans hf) |>.symm
  obtain rfl : fn = Tryd.f3 := (Option.some.inj (Tryd.func3.symm.trans hfn)).symm
  refine ⟨by kernel_rfl, fun j t ht => ?_⟩
  rw [Tryd.params3] at ht
  have hmem := Array.mem_of_getElem? ht
  simp only [List.mem_toArray, List.mem_cons, List.mem_nil_iff, or_false] at hmem
  have hone : ∀ t, (t = 22) → Tryd.pinned.checked.prog.wantsStandIn t = false := by
    rintro t (rfl)
    · exact (show Tryd.prog.wantsStandIn 22 = false by kernel_rfl)
  exact hone t (by first | exact hmem | omega)

set_option maxRecDepth 100000 in
theorem linePuts_card : Rows.LinePutsCardSaid :=
  Claim7.holds_tied_plain_at .later [] _ _ _ _ linePuts_said (fun _ h => by cases h) (by kernel_rfl) (fun _ h => by cases h) linePuts_row_tie rfl ⟨rfl, rfl⟩ (by kernel_rfl) rfl linePuts_plain (by kernel_rfl)

end Go.Proofs.YtllkibdpjpdbbaaDoor
