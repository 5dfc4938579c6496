/-
  What Append, Remove, Rename answer, and what they leave of a tree.
-/
import Derived.Test.YtginlknlkbhgaaaFOps
namespace Go.Proofs.Ytginlknlkbhgaaa
open Go.RowKit Go.Shelf Go.Maps

set_option maxRecDepth 100000 in
set_option maxHeartbeats 2000000 in
theorem append_err (bt : Nat) (p s : ByteArray) (nm : Option Nat) (vt : BS) (vm : Int) (ve : Option Nat) (c : Int) (hc : c ≠ 0) (w : World) (hs : s.size < 1073741824) (hv : vt.length < 1073741824) (c2 : w.cell? ⟨bt, 2, none⟩ = some (.map nm))
    (hrun : (Instr.lookup 64 (.map nm) (.string p) false).run Try.prog w = .ok (.agg #[.string (txt vt), .int .i64 vm, .pointer (endA ve)]) w)
    (hck : Calls Try.prog 36 #[.pointer (some ⟨bt, 0, none⟩), .string p, .int .i64 ((vt.length : Int) + (s.size : Int))] w fun r w' => r = .returned (.int .i64 c) ∧ Below w.heap.size w w') :
    Calls Try.prog 29 #[.pointer (some ⟨bt, 0, none⟩), .string p, .string s] w fun r w' => r = .returned (.int .i64 c) ∧ Below w.heap.size w w' := by
  have HC := Lib.hid hck
  have e1 : (c != 0) = true := by simpa using hc
  have hfl := field0
  clear hck
  go_enter Try.func29, Try.ntmps29
  go_wp2_with (go_at_call 36; refine (HC.out).mono ?_; rintro e w1 ⟨rfl, hb⟩)
  go_ret
  exact ⟨rfl, hb⟩

set_option maxRecDepth 100000 in
set_option maxHeartbeats 2000000 in
theorem append_ok (bt : Nat) (p s : ByteArray) (nm : Option Nat) (vt : BS) (vm : Int) (ve : Option Nat) (w : World) (hs : s.size < 1073741824) (hv : vt.length < 1073741824) (c2 : w.cell? ⟨bt, 2, none⟩ = some (.map nm)) (Q : World → Prop)
    (hrun : (Instr.lookup 64 (.map nm) (.string p) false).run Try.prog w = .ok (.agg #[.string (txt vt), .int .i64 vm, .pointer (endA ve)]) w)
    (hck : Calls Try.prog 36 #[.pointer (some ⟨bt, 0, none⟩), .string p, .int .i64 ((vt.length : Int) + (s.size : Int))] w fun r w' => r = .returned (.int .i64 0) ∧ Below w.heap.size w w')
    (hdo : ∀ w1, Below w.heap.size w w1 → Calls Try.prog 37 #[.pointer (some ⟨bt, 0, none⟩), .agg #[.int .i64 1, .string p, .string ⟨#[]⟩, .string s, .int .i64 0]] w1 fun r w' => r = .returned (.tuple #[]) ∧ Q w') :
    Calls Try.prog 29 #[.pointer (some ⟨bt, 0, none⟩), .string p, .string s] w fun r w' => r = .returned (.int .i64 0) ∧ Q w' := by
  have HC := Lib.hid hck
  have HD := Lib.hid hdo
  have hfl := field0
  clear hck hdo
  go_enter Try.func29, Try.ntmps29
  go_wp2_with (first
    | (go_at_call 36; refine (HC.out).mono ?_; rintro e w1 ⟨rfl, hb⟩)
    | (go_at_call 37; refine (HD.out _ (by assumption)).mono ?_; rintro e w2 ⟨rfl, hq⟩))
  go_ret
  exact ⟨rfl, hq⟩

theorem append_tree (bt : Nat) (X : Nat → Prop) (p s : ByteArray) (room : Int) (S : St) (w : World) (h : TreeS w X bt room S) (ho : OkS room S) (hp : p.size ≤ 1048576) (hs : s.size ≤ 1048576) (ht : (textOf S.now p.data.toList).length ≤ 16777216) :
    Calls Try.prog 29 #[.pointer (some ⟨bt, 0, none⟩), .string p, .string s] w fun r w' => r = .returned (.int .i64 (opA room S p.data.toList s.data.toList).1) ∧ StepS w X bt room (opA room S p.data.toList s.data.toList).2 w' := by
  have hck := check_any bt X p ((textOf S.now p.data.toList).length + s.size) room S w h ho (by unfold maxLen; omega) (by omega)
  obtain ⟨nm, sm, pv, YN, YS, YP, LN, LS, hq, h1, h2⟩ := id h
  obtain ⟨vt, vm, ve, hv⟩ : ∃ vt vm ve, fileOr LN p = (vt, vm, ve) := ⟨_, _, _, rfl⟩
  have hto : textOf S.now p.data.toList = vt := by rw [← h1, ← fileOr_text, hv]
  have hrun := hq.now.map.look p (by unfold maxLen; omega)
  rw [hv] at hrun
  have c2 := hq.cells.cell.2.2.1
  unfold opA
  rw [size_list]
  rw [hto] at hck ht ⊢
  rw [Int.natCast_add] at hck
  by_cases hc : checkC room S.now p.data.toList (vt.length + s.size) = 0
  · rw [if_pos hc]
    rw [hc] at hck
    obtain ⟨k1, k2, k3, k4, k5⟩ := check_ok hc
    refine append_ok bt p s nm vt vm ve w (by omega) (by omega) c2 _ hrun hck (fun w1 hb => ?_)
    have h1 : TreeS w1 X bt room S := TreeR.below h hb
    refine (do_any bt X 1 p ⟨#[]⟩ s s.data.toList room _ _ _ _ w1 ho.clock0 ho.clock1 h1 ?_ ?_ (by have := ho.files; omega) (by have := ho.pends; omega)).mono (fun r w' hr => ⟨hr.1, StepS.behind hb hr.2⟩)
    · simp only [chCells, toOf, txtOf, Ch.kind, Ch.path, Ch.arg, Ch.time]
      rw [txt_toList, if_neg (by omega), if_pos (by omega), txt_toList]; rfl
    · refine ⟨by simp [Ch.kind], by simp only [Ch.path]; rw [size_list]; omega, by simp only [Ch.arg]; rw [size_list]; omega, fun h => ?_, fun h => by simp [Ch.kind] at h⟩
      simp only [Ch.path, Ch.arg]
      rw [hto, size_list]; omega
  · rw [if_neg hc]
    exact (append_err bt p s nm vt vm ve _ hc w (by omega) (by omega) c2 hrun hck).mono (fun r w' hr => ⟨hr.1, StepS.same h hr.2⟩)

theorem has_tree (nm : Option Nat) (LN : FVs) (now : Fs) (h1 : strip LN = now) (p : ByteArray) (hp : p.size ≤ maxLen) (w : World) (h : MapV w nm LN) (b : Bool) (hb : (look now p.data.toList).isSome = b) :
    Calls Try.prog 48 #[.map nm, .string p] w fun e w' => e = .returned (.bool b) ∧ Below w.heap.size w w' := by
  have := has_any nm LN p hp w h
  rw [show (look LN p.data.toList).isSome = b by rw [← hb, ← h1, strip_look]; cases look LN p.data.toList <;> rfl] at this
  exact this

set_option maxRecDepth 100000 in
set_option maxHeartbeats 2000000 in
theorem remove_tree (bt : Nat) (X : Nat → Prop) (p : ByteArray) (room : Int) (S : St) (w : World) (h : TreeS w X bt room S) (ho : OkS room S) (hp : p.size ≤ 1048576) :
    Calls Try.prog 21 #[.pointer (some ⟨bt, 0, none⟩), .string p] w fun r w' => r = .returned (.int .i64 (opR S p.data.toList).1) ∧ StepS w X bt room (opR S p.data.toList).2 w' := by
  obtain ⟨nm, sm, pv, YN, YS, YP, LN, LS, hq, h1, h2⟩ := id h
  have c2 := hq.cells.cell.2.2.1
  unfold opR
  cases hl : (look S.now p.data.toList).isSome with
  | false =>
    rw [if_neg (by simp)]
    have HH := Lib.hid (has_tree nm LN S.now h1 p (by unfold maxLen; omega) w hq.now.map false hl)
    have HT := Lib.hid h
    clear h hq h1 h2 hl
    go_enter Try.func21, Try.ntmps21
    go_wp2_with (go_at_call 48; refine (HH.out).mono ?_; rintro e w1 ⟨rfl, hb⟩)
    go_ret
    exact ⟨rfl, StepS.same HT.out hb⟩
  | true =>
    rw [if_pos rfl]
    have HH := Lib.hid (has_tree nm LN S.now h1 p (by unfold maxLen; omega) w hq.now.map true hl)
    have HD : Hid (∀ w1, Below w.heap.size w w1 → Calls Try.prog 37 #[.pointer (some ⟨bt, 0, none⟩), .agg #[.int .i64 2, .string p, .string ⟨#[]⟩, .string ⟨#[]⟩, .int .i64 0]] w1 fun r w' => r = .returned (.tuple #[]) ∧ StepS w X bt room (doSt S 2 p.data.toList []) w') := by
      intro w1 hb
      have h1 : TreeS w1 X bt room S := TreeR.below h hb
      refine (do_any bt X 2 p ⟨#[]⟩ ⟨#[]⟩ [] room _ _ _ _ w1 ho.clock0 ho.clock1 h1 ?_ ?_ (by have := ho.files; omega) (by have := ho.pends; omega)).mono (fun r w' hr => ⟨hr.1, StepS.behind hb hr.2⟩)
      · simp only [chCells, toOf, txtOf, Ch.kind, Ch.path, Ch.arg, Ch.time]
        rw [txt_toList, if_neg (by omega), if_neg (by omega)]; rfl
      · refine ⟨by simp [Ch.kind], by simp only [Ch.path]; rw [size_list]; omega, by simp [Ch.arg], fun h => by simp [Ch.kind] at h, fun h => by simp [Ch.kind] at h⟩
    clear h hq h1 h2 hl ho
    go_enter Try.func21, Try.ntmps21
    go_wp2_with (first
      | (go_at_call 48; refine (HH.out).mono ?_; rintro e w1 ⟨rfl, hb⟩)
      | (go_at_call 37; refine (HD.out _ (by assumption)).mono ?_; rintro e w2 ⟨rfl, hq⟩))
    go_ret
    exact ⟨rfl, hq⟩

end Go.Proofs.Ytginlknlkbhgaaa
