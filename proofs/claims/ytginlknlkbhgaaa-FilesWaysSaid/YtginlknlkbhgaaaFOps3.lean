/-
  What Rename, Read, Stat, Pending, New and Sync answer, and what they leave of a tree.
-/
import Derived.Test.YtginlknlkbhgaaaFOps2
namespace Go.Proofs.Ytginlknlkbhgaaa
open Go.RowKit Go.Shelf Go.Maps

theorem collide_tree (nm : Option Nat) (LN : FVs) (now : Fs) (h1 : strip LN = now) (p lo : ByteArray) (w : World) (h : MapV w nm LN) (b : Bool) (hb : blocked (drp lo.data.toList now) p.data.toList = b) :
    Calls Try.prog 51 #[.map nm, .string p, .string lo] w fun e w' => e = .returned (.bool b) ∧ Below w.heap.size w w' := by
  have := collide_any nm LN p lo w h
  rw [← strip_blocked, strip_drp, h1, hb] at this
  exact this

set_option maxRecDepth 100000 in
set_option maxHeartbeats 4000000 in
theorem rename_tree (bt : Nat) (X : Nat → Prop) (p q : ByteArray) (room : Int) (S : St) (w : World) (h : TreeS w X bt room S) (ho : OkS room S) (hp : p.size ≤ 1048576) (hq : q.size ≤ 1048576) :
    Calls Try.prog 23 #[.pointer (some ⟨bt, 0, none⟩), .string p, .string q] w fun r w' => r = .returned (.int .i64 (opN S p.data.toList q.data.toList).1) ∧ StepS w X bt room (opN S p.data.toList q.data.toList).2 w' := by
  have hpm : p.size ≤ maxLen := by unfold maxLen; omega
  have hqm : q.size ≤ maxLen := by unfold maxLen; omega
  obtain ⟨nm, sm, pv, YN, YS, YP, LN, LS, hq0, h1, h2⟩ := id h
  have HT := Lib.hid h
  have HC2 : Hid (∀ w1, CkAt w w1 → w1.cell? ⟨bt, 2, none⟩ = some (.map nm)) := fun w1 hb => (hq0.cells.below hb hq0.cells.lt).cell.2.2.1
  have c2 := hq0.cells.cell.2.2.1
  unfold opN
  cases hl : (look S.now p.data.toList).isSome with
  | false =>
    rw [if_pos rfl]
    have HH := Lib.hid (has_tree nm LN S.now h1 p hpm w hq0.now.map false hl)
    clear h hq0 h1 h2 hl HC2
    go_enter Try.func23, Try.ntmps23
    go_wp2_with (go_at_call 48; refine (HH.out).mono ?_; rintro e w1 ⟨rfl, hb⟩)
    go_ret
    exact ⟨rfl, StepS.same HT.out hb⟩
  | true =>
    rw [if_neg (by simp)]
    have HH : Hid (Calls Try.prog 48 #[.map nm, .string p] w fun e w' => e = .returned (.bool true) ∧ CkAt w w') := has_tree nm LN S.now h1 p hpm w hq0.now.map true hl
    cases hpq : pathB q.data.toList with
    | false =>
      rw [if_pos rfl]
      have HP : Hid (∀ w1, CkAt w w1 → Calls Try.prog 50 #[.string q] w1 fun e w' => e = .returned (.bool false) ∧ CkAt w w') := fun w1 hb => (path_f q hqm w1 hpq).mono (fun _ _ hr => ⟨hr.1, hb.step hr.2⟩)
      clear h hq0 h1 h2 hl HC2 hpq
      go_enter Try.func23, Try.ntmps23
      go_wp2_with (first
        | (go_at_call 48; refine (HH.out).mono ?_; rintro e w1 ⟨rfl, hb⟩)
        | (go_at_call 50; refine (HP.out _ (by assumption)).mono ?_; rintro e w2 ⟨rfl, hb2⟩))
      go_ret
      exact ⟨rfl, StepS.same HT.out hb2⟩
    | true =>
      rw [if_neg (by simp)]
      have HP : Hid (∀ w1, CkAt w w1 → Calls Try.prog 50 #[.string q] w1 fun e w' => e = .returned (.bool true) ∧ CkAt w w') := fun w1 hb => (path_t q hqm w1 hpq).mono (fun _ _ hr => ⟨hr.1, hb.step hr.2⟩)
      by_cases hpe : p = q
      · have e1 : (p.toList == q.toList) = true := by rw [str_eq]; simp [hpe]
        rw [if_pos (by rw [hpe])]
        clear h hq0 h1 h2 hl HC2 hpq hpe
        go_enter Try.func23, Try.ntmps23
        go_wp2_with (first
          | (go_at_call 48; refine (HH.out).mono ?_; rintro e w1 ⟨rfl, hb⟩)
          | (go_at_call 50; refine (HP.out _ (by assumption)).mono ?_; rintro e w2 ⟨rfl, hb2⟩))
        go_ret
        exact ⟨rfl, StepS.same HT.out hb2⟩
      · have e1 : (p.toList == q.toList) = false := by rw [str_eq]; simp [hpe]
        rw [if_neg (fun e => hpe (by rw [← txt_toList p, ← txt_toList q, e]))]
        cases hbk : blocked (drp p.data.toList S.now) q.data.toList with
        | true =>
          rw [if_pos rfl]
          have HCo : Hid (∀ w1, CkAt w w1 → Calls Try.prog 51 #[.map nm, .string q, .string p] w1 fun e w' => e = .returned (.bool true) ∧ CkAt w w') := fun w1 hb => (collide_tree nm LN S.now h1 q p w1 (hq0.now.map.below hb (Nat.le_refl _)) true hbk).mono (fun _ _ hr => ⟨hr.1, hb.step hr.2⟩)
          clear h hq0 h1 h2 hl hpq hpe hbk
          go_enter Try.func23, Try.ntmps23
          go_wp2_with (first
            | (go_at_call 48; refine (HH.out).mono ?_; rintro e w1 ⟨rfl, hb⟩)
            | (go_at_call 50; refine (HP.out _ (by assumption)).mono ?_; rintro e w2 ⟨rfl, hb2⟩; have c22 := HC2.out w2 hb2)
            | (go_at_call 51; refine (HCo.out _ (by assumption)).mono ?_; rintro e w3 ⟨rfl, hb3⟩))
          go_ret
          exact ⟨rfl, StepS.same HT.out hb3⟩
        | false =>
          rw [if_neg (by simp)]
          have HCo : Hid (∀ w1, CkAt w w1 → Calls Try.prog 51 #[.map nm, .string q, .string p] w1 fun e w' => e = .returned (.bool false) ∧ CkAt w w') := fun w1 hb => (collide_tree nm LN S.now h1 q p w1 (hq0.now.map.below hb (Nat.le_refl _)) false hbk).mono (fun _ _ hr => ⟨hr.1, hb.step hr.2⟩)
          have HD : Hid (∀ w1, CkAt w w1 → Calls Try.prog 37 #[.pointer (some ⟨bt, 0, none⟩), .agg #[.int .i64 3, .string p, .string q, .string ⟨#[]⟩, .int .i64 0]] w1 fun r w' => r = .returned (.tuple #[]) ∧ StepS w X bt room (doSt S 3 p.data.toList q.data.toList) w') := by
            intro w1 hb
            have h1 : TreeS w1 X bt room S := TreeR.below h hb
            refine (do_any bt X 3 p q ⟨#[]⟩ q.data.toList room _ _ _ _ w1 ho.clock0 ho.clock1 h1 ?_ ?_ (by have := ho.files; omega) (by have := ho.pends; omega)).mono (fun r w' hr => ⟨hr.1, StepS.behind hb hr.2⟩)
            · simp only [chCells, toOf, txtOf, Ch.kind, Ch.path, Ch.arg, Ch.time]
              rw [txt_toList, if_pos trivial, if_neg (by omega), txt_toList]; rfl
            · refine ⟨by simp [Ch.kind], by simp only [Ch.path]; rw [size_list]; omega, by simp only [Ch.arg]; rw [size_list]; omega, fun h => by simp [Ch.kind] at h, fun _ => hl⟩
          clear h hq0 h1 h2 hl hpq hpe hbk ho
          go_enter Try.func23, Try.ntmps23
          go_wp2_with (first
            | (go_at_call 48; refine (HH.out).mono ?_; rintro e w1 ⟨rfl, hb⟩)
            | (go_at_call 50; refine (HP.out _ (by assumption)).mono ?_; rintro e w2 ⟨rfl, hb2⟩; have c22 := HC2.out w2 hb2)
            | (go_at_call 51; refine (HCo.out _ (by assumption)).mono ?_; rintro e w3 ⟨rfl, hb3⟩)
            | (go_at_call 37; refine (HD.out _ (by assumption)).mono ?_; rintro e w4 ⟨rfl, hq4⟩))
          go_ret
          exact ⟨rfl, hq4⟩

def opRead (S : St) (p : BS) : BS × Int := match look S.now p with | none => ([], 4) | some v => (v.1, 0)
def opStat (S : St) (p : BS) : Int × (Int × Int) := match look S.now p with | none => (0, 0, 4) | some v => (v.1.length, v.2, 0)

theorem look_fd {LN : FVs} {now : Fs} (h1 : strip LN = now) {p : ByteArray} {v : FD} (hl : look now p.data.toList = some v) : ∃ ve, fileOr LN p = (v.1, v.2, ve) := by
  rw [← h1, strip_look] at hl
  obtain ⟨f, hf, hv⟩ := Option.map_eq_some_iff.1 hl
  unfold fileOr
  rw [hf, ← hv]
  exact ⟨_, rfl⟩

set_option maxRecDepth 100000 in
set_option maxHeartbeats 2000000 in
theorem read_tree (bt : Nat) (X : Nat → Prop) (p : ByteArray) (room : Int) (S : St) (w : World) (h : TreeS w X bt room S) (hp : p.size ≤ 1048576) :
    Calls Try.prog 19 #[.pointer (some ⟨bt, 0, none⟩), .string p] w fun r w' => r = .returned (.tuple #[.string (txt (opRead S p.data.toList).1), .int .i64 (opRead S p.data.toList).2]) ∧ Below w.heap.size w w' := by
  have hpm : p.size ≤ maxLen := by unfold maxLen; omega
  obtain ⟨nm, sm, pv, YN, YS, YP, LN, LS, hq, h1, h2⟩ := id h
  have c2 := hq.cells.cell.2.2.1
  unfold opRead
  cases hl : look S.now p.data.toList with
  | none =>
    have HH := Lib.hid (has_tree nm LN S.now h1 p hpm w hq.now.map false (by rw [hl]; rfl))
    clear h hq h1 h2 hl
    go_enter Try.func19, Try.ntmps19
    go_wp2_with (go_at_call 48; refine (HH.out).mono ?_; rintro e w1 ⟨rfl, hb⟩)
    go_ret2
    exact ⟨rfl, hb⟩
  | some v =>
    obtain ⟨ve, hv⟩ := look_fd h1 hl
    obtain ⟨vt, vm⟩ := v
    have HH : Hid (Calls Try.prog 48 #[.map nm, .string p] w fun e w' => e = .returned (.bool true) ∧ CkAt w w') := has_tree nm LN S.now h1 p hpm w hq.now.map true (by rw [hl]; rfl)
    have HC2 : Hid (∀ w1, CkAt w w1 → w1.cell? ⟨bt, 2, none⟩ = some (.map nm)) := fun w1 hb => (hq.cells.below hb hq.cells.lt).cell.2.2.1
    have HL : Hid (∀ w1, CkAt w w1 → (Instr.lookup 64 (.map nm) (.string p) false).run Try.prog w1 = .ok (.agg #[.string (txt vt), .int .i64 vm, .pointer (endA ve)]) w1) := by
      intro w1 h1
      have := (hq.now.map.below h1 (Nat.le_refl _)).look p hpm
      rwa [hv] at this
    have hfl := field0
    clear h hq h1 h2 hl hv
    go_enter Try.func19, Try.ntmps19
    go_wp2_with (go_at_call 48; refine (HH.out).mono ?_; rintro e w1 ⟨rfl, hb⟩; have c3 := HC2.out w1 hb; have hl3 := HL.out w1 hb)
    go_ret2
    exact ⟨rfl, hb⟩

end Go.Proofs.Ytginlknlkbhgaaa
