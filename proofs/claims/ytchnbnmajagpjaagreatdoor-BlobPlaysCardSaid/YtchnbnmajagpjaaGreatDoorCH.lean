/-
  What Write, Append, Remove, Rename answer, and what they leave of a tree.
  What Append, Remove, Rename answer, and what they leave of a tree.
  What Rename, Read, Stat, Pending, New and Sync answer, and what they leave of a tree.
  What Stat, Pending, New and Sync answer, and what they leave of a tree.
  slices.Sorted(maps.Keys(m)) at the program's maps of files: the paths, by bytes, in a new row. For any map, nil or not.
  What All answers: path and bytes of all files, by path, in a new row. For any tree.
  What Clone answers: a tree just like it, in new blocks. For any tree.
  Whether a change may be torn, and a torn one; a tree behind apply.
  What Crash leaves of a tree: what was synced, the first ones of the changes behind it, and a part of the next one. For any tree whose changes fit behind one another.
  Crash, where no change is left: all are kept, or there is none.
  What holds of a tree's files and changes behind any acts: no program. No condition.
-/
import Derived.Shelf.SlIter.Nil
import Derived.Shelf.SortM.Plain
import Derived.Shelf.SortM.SortNone
import Derived.Ground.GgzProg
import Derived.Ground.SlgmProg
import Derived.Deep.RegionHeld3
import Derived.Test.YtchnbnmajagpjaaGreatDoorBG
namespace Go.Proofs.YtchnbnmajagpjaaGreatDoor
open Go.RowKit Go.Shelf Go.Maps

/-- The clock, the files, those of the last sync, what is pending. -/
abbrev St := Int × (Fs × (Fs × List Ch))
abbrev St.clock (S : St) : Int := S.1
abbrev St.now (S : St) : Fs := S.2.1
abbrev St.last (S : St) : Fs := S.2.2.1
abbrev St.pend (S : St) : List Ch := S.2.2.2
def doSt (S : St) (k : Nat) (p a : BS) : St := (S.clock + 1, after S.now (k, p, a, S.clock + 1), S.last, S.pend ++ [(k, p, a, S.clock + 1)])
def opW (room : Int) (S : St) (p s : BS) : Int × St := if checkC room S.now p s.length = 0 then (0, doSt S 0 p s) else (checkC room S.now p s.length, S)
def opA (room : Int) (S : St) (p s : BS) : Int × St :=
  if checkC room S.now p ((textOf S.now p).length + s.length) = 0 then (0, doSt S 1 p s) else (checkC room S.now p ((textOf S.now p).length + s.length), S)
def opR (S : St) (p : BS) : Int × St := if (look S.now p).isSome then (0, doSt S 2 p []) else (4, S)
def opN (S : St) (p q : BS) : Int × St :=
  if (look S.now p).isSome = false then (4, S) else if pathB q = false then (1, S) else if p = q then (0, S) else if blocked (drp p S.now) q = true then (5, S) else (0, doSt S 3 p q)

def TreeS (w : World) (X : Nat → Prop) (bt : Nat) (room : Int) (S : St) : Prop := TreeR w X bt room S.clock S.now S.last S.pend
def StepS (w : World) (X : Nat → Prop) (bt : Nat) (room : Int) (S : St) (w' : World) : Prop := Stepped w X bt room S.clock S.now S.last S.pend w'
/-- What the walks ask of the numbers. -/
structure OkS (room : Int) (S : St) : Prop where
  room0 : 0 ≤ room
  room1 : room < 4611686018427387904
  clock0 : 0 ≤ S.clock
  clock1 : S.clock < 4611686018427387904
  files : S.now.length ≤ 200
  bytes : used S.now < 4611686018427387904
  pends : S.pend.length < 536870912

theorem StepS.same {w w' : World} {X : Nat → Prop} {bt : Nat} {room : Int} {S : St} (h : TreeS w X bt room S) (hb : Below w.heap.size w w') : StepS w X bt room S w' :=
  ⟨X, TreeR.below h hb, (turned_below hb).wider (fun _ h => h.elim), fun _ => .inl⟩
theorem StepS.behind {w w1 w' : World} {X : Nat → Prop} {bt : Nat} {room : Int} {S : St} (hb : Below w.heap.size w w1) (h : StepS w1 X bt room S w') : StepS w X bt room S w' := by
  obtain ⟨X', h1, h2, h3⟩ := h
  exact ⟨X', h1, ((turned_below hb).wider (fun _ h => h.elim)).trans h2, fun n hn => (h3 n hn).elim .inl (fun h => .inr (by have := hb.size; omega))⟩

theorem check_any (bt : Nat) (X : Nat → Prop) (p : ByteArray) (n : Nat) (room : Int) (S : St) (w : World) (h : TreeS w X bt room S) (ho : OkS room S) (hp : p.size ≤ maxLen) (_hn : n < 4611686018427387904) :
    Calls Tryz.prog 75 #[.pointer (some ⟨bt, 0, none⟩), .string p, .int .i64 n] w fun r w' => r = .returned (.int .i64 (checkC room S.now p.data.toList n)) ∧ Below w.heap.size w w' := by
  obtain ⟨nm, sm, pv, YN, YS, YP, LN, LS, hq, h1, h2⟩ := h
  unfold checkC
  cases hpb : pathB p.data.toList with
  | false => rw [if_pos rfl]; exact check_arg bt p n w hp hpb
  | true =>
    rw [if_neg (by simp)]
    by_cases hl : 16777216 < n
    · rw [if_pos hl]; exact check_long bt p n w hp hpb hl
    · rw [if_neg hl]
      cases hbk : blocked S.now p.data.toList with
      | true => rw [if_pos rfl]; exact check_there bt p n room _ nm sm pv LN w hq.cells hq.now.map hp hpb hl (by rw [h1]; exact hbk)
      | false =>
        rw [if_neg (by simp)]
        refine check_rest bt p n room _ nm sm pv LN w hq.cells hq.now.map hp hpb hl (by rw [h1]; exact hbk) (by rw [h1]; exact ho.bytes) ho.room0 ho.room1 _ ?_
        rw [h1]
        by_cases hr : room < (used S.now : Int) - ((textOf S.now p.data.toList).length : Int) + (n : Int)
        · left; exact ⟨hr, if_pos hr⟩
        · right
          refine ⟨hr, ?_⟩
          rw [if_neg hr]
          by_cases hc : 200 ≤ S.now.length ∧ (look S.now p.data.toList).isSome = false
          · left; exact ⟨hc.1, hc.2, if_pos hc⟩
          · right; exact ⟨hc, if_neg hc⟩

theorem check_ok {room : Int} {now : Fs} {p : BS} {n : Nat} (h : checkC room now p n = 0) : pathB p = true ∧ n ≤ 16777216 ∧ blocked now p = false ∧ (used now : Int) - ((textOf now p).length : Int) + (n : Int) ≤ room ∧ (now.length < 200 ∨ (look now p).isSome = true) := by
  unfold checkC at h
  split at h
  · cases h
  · split at h
    · cases h
    · split at h
      · cases h
      · split at h
        · cases h
        · split at h
          · cases h
          · rename_i h1 h2 h3 h4 h5
            refine ⟨by simpa using h1, by omega, by simpa using h3, by omega, ?_⟩
            by_cases h6 : now.length < 200
            · exact .inl h6
            · right
              cases hx : (look now p).isSome
              · exact absurd ⟨by omega, hx⟩ h5
              · rfl
theorem path_short {p : BS} (h : pathB p = true) : p.length ≤ 100 := by
  unfold pathB at h
  simp only [Bool.and_eq_true, decide_eq_true_eq] at h
  exact h.1.1.1

set_option maxRecDepth 100000 in
set_option maxHeartbeats 2000000 in
theorem write_err (bt : Nat) (p s : ByteArray) (c : Int) (hc : c ≠ 0) (w : World) (_hs : s.size < 4611686018427387904)
    (hck : Calls Tryz.prog 75 #[.pointer (some ⟨bt, 0, none⟩), .string p, .int .i64 s.size] w fun r w' => r = .returned (.int .i64 c) ∧ Below w.heap.size w w') :
    Calls Tryz.prog 84 #[.pointer (some ⟨bt, 0, none⟩), .string p, .string s] w fun r w' => r = .returned (.int .i64 c) ∧ Below w.heap.size w w' := by
  have HC := Lib.hid hck
  have e1 : (c != 0) = true := by simpa using hc
  clear hck
  go_enter Tryz.func84, Tryz.ntmps84
  go_wp2_with (go_at_call 75; refine (HC.out).mono ?_; rintro e w1 ⟨rfl, hb⟩)
  go_ret
  exact ⟨rfl, hb⟩

set_option maxRecDepth 100000 in
set_option maxHeartbeats 2000000 in
theorem write_ok (bt : Nat) (p s : ByteArray) (w : World) (_hs : s.size < 4611686018427387904) (Q : World → Prop)
    (hck : Calls Tryz.prog 75 #[.pointer (some ⟨bt, 0, none⟩), .string p, .int .i64 s.size] w fun r w' => r = .returned (.int .i64 0) ∧ Below w.heap.size w w')
    (hdo : ∀ w1, Below w.heap.size w w1 → Calls Tryz.prog 76 #[.pointer (some ⟨bt, 0, none⟩), .agg #[.int .i64 0, .string p, .string ⟨#[]⟩, .string s, .int .i64 0]] w1 fun r w' => r = .returned (.tuple #[]) ∧ Q w') :
    Calls Tryz.prog 84 #[.pointer (some ⟨bt, 0, none⟩), .string p, .string s] w fun r w' => r = .returned (.int .i64 0) ∧ Q w' := by
  have HC := Lib.hid hck
  have HD := Lib.hid hdo
  clear hck hdo
  go_enter Tryz.func84, Tryz.ntmps84
  go_wp2_with (first
    | (go_at_call 75; refine (HC.out).mono ?_; rintro e w1 ⟨rfl, hb⟩)
    | (go_at_call 76; refine (HD.out _ (by assumption)).mono ?_; rintro e w2 ⟨rfl, hq⟩))
  go_ret
  exact ⟨rfl, hq⟩

theorem write_tree (bt : Nat) (X : Nat → Prop) (p s : ByteArray) (room : Int) (S : St) (w : World) (h : TreeS w X bt room S) (ho : OkS room S) (hp : p.size ≤ 1048576) (hs : s.size ≤ 1048576) :
    Calls Tryz.prog 84 #[.pointer (some ⟨bt, 0, none⟩), .string p, .string s] w fun r w' => r = .returned (.int .i64 (opW room S p.data.toList s.data.toList).1) ∧ StepS w X bt room (opW room S p.data.toList s.data.toList).2 w' := by
  have hck := check_any bt X p s.size room S w h ho (by unfold maxLen; omega) (by omega)
  unfold opW
  rw [size_list]
  by_cases hc : checkC room S.now p.data.toList s.size = 0
  · rw [if_pos hc]
    rw [hc] at hck
    obtain ⟨k1, k2, k3, k4, k5⟩ := check_ok hc
    refine write_ok bt p s w (by omega) _ hck (fun w1 hb => ?_)
    have h1 : TreeS w1 X bt room S := TreeR.below h hb
    refine (do_any bt X 0 p ⟨#[]⟩ s s.data.toList room _ _ _ _ w1 ho.clock0 ho.clock1 h1 ?_ ?_ (by have := ho.files; omega) (by have := ho.pends; omega)).mono (fun r w' hr => ⟨hr.1, StepS.behind hb hr.2⟩)
    · simp only [chCells, toOf, txtOf, Ch.kind, Ch.path, Ch.arg, Ch.time]
      rw [txt_toList, if_neg (by omega), if_pos (by omega), txt_toList]; rfl
    · refine ⟨by simp [Ch.kind], by simp only [Ch.path]; rw [size_list]; omega, by simp only [Ch.arg]; rw [size_list]; omega, fun h => by simp [Ch.kind] at h, fun h => by simp [Ch.kind] at h⟩
  · rw [if_neg hc]
    exact (write_err bt p s _ hc w (by omega) hck).mono (fun r w' hr => ⟨hr.1, StepS.same h hr.2⟩)

end Go.Proofs.YtchnbnmajagpjaaGreatDoor

namespace Go.Proofs.YtchnbnmajagpjaaGreatDoor
open Go.RowKit Go.Shelf Go.Maps

set_option maxRecDepth 100000 in
set_option maxHeartbeats 2000000 in
theorem append_err (bt : Nat) (p s : ByteArray) (nm : Option Nat) (vt : BS) (vm : Int) (ve : Option Nat) (c : Int) (hc : c ≠ 0) (w : World) (hs : s.size < 1073741824) (hv : vt.length < 1073741824) (c2 : w.cell? ⟨bt, 2, none⟩ = some (.map nm))
    (hrun : (Instr.lookup 89 (.map nm) (.string p) false).run Tryz.prog w = .ok (.agg #[.string (txt vt), .int .i64 vm, .pointer (endA ve)]) w)
    (hck : Calls Tryz.prog 75 #[.pointer (some ⟨bt, 0, none⟩), .string p, .int .i64 ((vt.length : Int) + (s.size : Int))] w fun r w' => r = .returned (.int .i64 c) ∧ Below w.heap.size w w') :
    Calls Tryz.prog 48 #[.pointer (some ⟨bt, 0, none⟩), .string p, .string s] w fun r w' => r = .returned (.int .i64 c) ∧ Below w.heap.size w w' := by
  have HC := Lib.hid hck
  have e1 : (c != 0) = true := by simpa using hc
  have hfl := field0
  clear hck
  go_enter Tryz.func48, Tryz.ntmps48
  go_wp2_with (go_at_call 75; refine (HC.out).mono ?_; rintro e w1 ⟨rfl, hb⟩)
  go_ret
  exact ⟨rfl, hb⟩

set_option maxRecDepth 100000 in
set_option maxHeartbeats 2000000 in
theorem append_ok (bt : Nat) (p s : ByteArray) (nm : Option Nat) (vt : BS) (vm : Int) (ve : Option Nat) (w : World) (hs : s.size < 1073741824) (hv : vt.length < 1073741824) (c2 : w.cell? ⟨bt, 2, none⟩ = some (.map nm)) (Q : World → Prop)
    (hrun : (Instr.lookup 89 (.map nm) (.string p) false).run Tryz.prog w = .ok (.agg #[.string (txt vt), .int .i64 vm, .pointer (endA ve)]) w)
    (hck : Calls Tryz.prog 75 #[.pointer (some ⟨bt, 0, none⟩), .string p, .int .i64 ((vt.length : Int) + (s.size : Int))] w fun r w' => r = .returned (.int .i64 0) ∧ Below w.heap.size w w')
    (hdo : ∀ w1, Below w.heap.size w w1 → Calls Tryz.prog 76 #[.pointer (some ⟨bt, 0, none⟩), .agg #[.int .i64 1, .string p, .string ⟨#[]⟩, .string s, .int .i64 0]] w1 fun r w' => r = .returned (.tuple #[]) ∧ Q w') :
    Calls Tryz.prog 48 #[.pointer (some ⟨bt, 0, none⟩), .string p, .string s] w fun r w' => r = .returned (.int .i64 0) ∧ Q w' := by
  have HC := Lib.hid hck
  have HD := Lib.hid hdo
  have hfl := field0
  clear hck hdo
  go_enter Tryz.func48, Tryz.ntmps48
  go_wp2_with (first
    | (go_at_call 75; refine (HC.out).mono ?_; rintro e w1 ⟨rfl, hb⟩)
    | (go_at_call 76; refine (HD.out _ (by assumption)).mono ?_; rintro e w2 ⟨rfl, hq⟩))
  go_ret
  exact ⟨rfl, hq⟩

theorem append_tree (bt : Nat) (X : Nat → Prop) (p s : ByteArray) (room : Int) (S : St) (w : World) (h : TreeS w X bt room S) (ho : OkS room S) (hp : p.size ≤ 1048576) (hs : s.size ≤ 1048576) (ht : (textOf S.now p.data.toList).length ≤ 16777216) :
    Calls Tryz.prog 48 #[.pointer (some ⟨bt, 0, none⟩), .string p, .string s] w fun r w' => r = .returned (.int .i64 (opA room S p.data.toList s.data.toList).1) ∧ StepS w X bt room (opA room S p.data.toList s.data.toList).2 w' := by
  have hck := check_any bt X p ((textOf S.now p.data.toList).length + s.size) room S w h ho (by unfold maxLen; omega) (by omega)
  obtain ⟨nm, sm, pv, YN, YS, YP, LN, LS, hq, h1, h2⟩ := id h
  obtain ⟨vt, vm, ve, hv⟩ : ∃ vt vm ve, fileOr LN p = (vt, vm, ve) := ⟨_, _, _, rfl⟩
  have hto : textOf S.now p.data.toList = vt := by rw [← h1, ← fileOr_text, hv]
  have hrun := hq.now.map.look p (by unfold maxLen; omega)
  rw [hv] at hrun
  have c2 := hq.cells.cell.2.2.1
  unfold opA
  rw [size_list]
  rw [hto] at hck ht ⊢
  rw [Int.natCast_add] at hck
  by_cases hc : checkC room S.now p.data.toList (vt.length + s.size) = 0
  · rw [if_pos hc]
    rw [hc] at hck
    obtain ⟨k1, k2, k3, k4, k5⟩ := check_ok hc
    refine append_ok bt p s nm vt vm ve w (by omega) (by omega) c2 _ hrun hck (fun w1 hb => ?_)
    have h1 : TreeS w1 X bt room S := TreeR.below h hb
    refine (do_any bt X 1 p ⟨#[]⟩ s s.data.toList room _ _ _ _ w1 ho.clock0 ho.clock1 h1 ?_ ?_ (by have := ho.files; omega) (by have := ho.pends; omega)).mono (fun r w' hr => ⟨hr.1, StepS.behind hb hr.2⟩)
    · simp only [chCells, toOf, txtOf, Ch.kind, Ch.path, Ch.arg, Ch.time]
      rw [txt_toList, if_neg (by omega), if_pos (by omega), txt_toList]; rfl
    · refine ⟨by simp [Ch.kind], by simp only [Ch.path]; rw [size_list]; omega, by simp only [Ch.arg]; rw [size_list]; omega, fun h => ?_, fun h => by simp [Ch.kind] at h⟩
      simp only [Ch.path, Ch.arg]
      rw [hto, size_list]; omega
  · rw [if_neg hc]
    exact (append_err bt p s nm vt vm ve _ hc w (by omega) (by omega) c2 hrun hck).mono (fun r w' hr => ⟨hr.1, StepS.same h hr.2⟩)

theorem has_tree (nm : Option Nat) (LN : FVs) (now : Fs) (h1 : strip LN = now) (p : ByteArray) (hp : p.size ≤ maxLen) (w : World) (h : MapV w nm LN) (b : Bool) (hb : (look now p.data.toList).isSome = b) :
    Calls Tryz.prog 64 #[.map nm, .string p] w fun e w' => e = .returned (.bool b) ∧ Below w.heap.size w w' := by
  have := has_any nm LN p hp w h
  rw [show (look LN p.data.toList).isSome = b by rw [← hb, ← h1, strip_look]; cases look LN p.data.toList <;> rfl] at this
  exact this

set_option maxRecDepth 100000 in
set_option maxHeartbeats 2000000 in
theorem remove_tree (bt : Nat) (X : Nat → Prop) (p : ByteArray) (room : Int) (S : St) (w : World) (h : TreeS w X bt room S) (ho : OkS room S) (hp : p.size ≤ 1048576) :
    Calls Tryz.prog 52 #[.pointer (some ⟨bt, 0, none⟩), .string p] w fun r w' => r = .returned (.int .i64 (opR S p.data.toList).1) ∧ StepS w X bt room (opR S p.data.toList).2 w' := by
  obtain ⟨nm, sm, pv, YN, YS, YP, LN, LS, hq, h1, h2⟩ := id h
  have c2 := hq.cells.cell.2.2.1
  unfold opR
  cases hl : (look S.now p.data.toList).isSome with
  | false =>
    rw [if_neg (by simp)]
    have HH := Lib.hid (has_tree nm LN S.now h1 p (by unfold maxLen; omega) w hq.now.map false hl)
    have HT := Lib.hid h
    clear h hq h1 h2 hl
    go_enter Tryz.func52, Tryz.ntmps52
    go_wp2_with (go_at_call 64; refine (HH.out).mono ?_; rintro e w1 ⟨rfl, hb⟩)
    go_ret
    exact ⟨rfl, StepS.same HT.out hb⟩
  | true =>
    rw [if_pos rfl]
    have HH := Lib.hid (has_tree nm LN S.now h1 p (by unfold maxLen; omega) w hq.now.map true hl)
    have HD : Hid (∀ w1, Below w.heap.size w w1 → Calls Tryz.prog 76 #[.pointer (some ⟨bt, 0, none⟩), .agg #[.int .i64 2, .string p, .string ⟨#[]⟩, .string ⟨#[]⟩, .int .i64 0]] w1 fun r w' => r = .returned (.tuple #[]) ∧ StepS w X bt room (doSt S 2 p.data.toList []) w') := by
      intro w1 hb
      have h1 : TreeS w1 X bt room S := TreeR.below h hb
      refine (do_any bt X 2 p ⟨#[]⟩ ⟨#[]⟩ [] room _ _ _ _ w1 ho.clock0 ho.clock1 h1 ?_ ?_ (by have := ho.files; omega) (by have := ho.pends; omega)).mono (fun r w' hr => ⟨hr.1, StepS.behind hb hr.2⟩)
      · simp only [chCells, toOf, txtOf, Ch.kind, Ch.path, Ch.arg, Ch.time]
        rw [txt_toList, if_neg (by omega), if_neg (by omega)]; rfl
      · refine ⟨by simp [Ch.kind], by simp only [Ch.path]; rw [size_list]; omega, by simp [Ch.arg], fun h => by simp [Ch.kind] at h, fun h => by simp [Ch.kind] at h⟩
    clear h hq h1 h2 hl ho
    go_enter Tryz.func52, Tryz.ntmps52
    go_wp2_with (first
      | (go_at_call 64; refine (HH.out).mono ?_; rintro e w1 ⟨rfl, hb⟩)
      | (go_at_call 76; refine (HD.out _ (by assumption)).mono ?_; rintro e w2 ⟨rfl, hq⟩))
    go_ret
    exact ⟨rfl, hq⟩

end Go.Proofs.YtchnbnmajagpjaaGreatDoor

namespace Go.Proofs.YtchnbnmajagpjaaGreatDoor
open Go.RowKit Go.Shelf Go.Maps

theorem collide_tree (nm : Option Nat) (LN : FVs) (now : Fs) (h1 : strip LN = now) (p lo : ByteArray) (w : World) (h : MapV w nm LN) (b : Bool) (hb : blocked (drp lo.data.toList now) p.data.toList = b) :
    Calls Tryz.prog 101 #[.map nm, .string p, .string lo] w fun e w' => e = .returned (.bool b) ∧ Below w.heap.size w w' := by
  have := collide_any nm LN p lo w h
  rw [← strip_blocked, strip_drp, h1, hb] at this
  exact this

set_option maxRecDepth 100000 in
set_option maxHeartbeats 4000000 in
theorem rename_tree (bt : Nat) (X : Nat → Prop) (p q : ByteArray) (room : Int) (S : St) (w : World) (h : TreeS w X bt room S) (ho : OkS room S) (hp : p.size ≤ 1048576) (hq : q.size ≤ 1048576) :
    Calls Tryz.prog 85 #[.pointer (some ⟨bt, 0, none⟩), .string p, .string q] w fun r w' => r = .returned (.int .i64 (opN S p.data.toList q.data.toList).1) ∧ StepS w X bt room (opN S p.data.toList q.data.toList).2 w' := by
  have hpm : p.size ≤ maxLen := by unfold maxLen; omega
  have hqm : q.size ≤ maxLen := by unfold maxLen; omega
  obtain ⟨nm, sm, pv, YN, YS, YP, LN, LS, hq0, h1, h2⟩ := id h
  have HT := Lib.hid h
  have HC2 : Hid (∀ w1, CkAt w w1 → w1.cell? ⟨bt, 2, none⟩ = some (.map nm)) := fun w1 hb => (hq0.cells.below hb hq0.cells.lt).cell.2.2.1
  have c2 := hq0.cells.cell.2.2.1
  unfold opN
  cases hl : (look S.now p.data.toList).isSome with
  | false =>
    rw [if_pos rfl]
    have HH := Lib.hid (has_tree nm LN S.now h1 p hpm w hq0.now.map false hl)
    clear h hq0 h1 h2 hl HC2
    go_enter Tryz.func85, Tryz.ntmps85
    go_wp2_with (go_at_call 64; refine (HH.out).mono ?_; rintro e w1 ⟨rfl, hb⟩)
    go_ret
    exact ⟨rfl, StepS.same HT.out hb⟩
  | true =>
    rw [if_neg (by simp)]
    have HH : Hid (Calls Tryz.prog 64 #[.map nm, .string p] w fun e w' => e = .returned (.bool true) ∧ CkAt w w') := has_tree nm LN S.now h1 p hpm w hq0.now.map true hl
    cases hpq : pathB q.data.toList with
    | false =>
      rw [if_pos rfl]
      have HP : Hid (∀ w1, CkAt w w1 → Calls Tryz.prog 69 #[.string q] w1 fun e w' => e = .returned (.bool false) ∧ CkAt w w') := fun w1 hb => (path_f q hqm w1 hpq).mono (fun _ _ hr => ⟨hr.1, hb.step hr.2⟩)
      clear h hq0 h1 h2 hl HC2 hpq
      go_enter Tryz.func85, Tryz.ntmps85
      go_wp2_with (first
        | (go_at_call 64; refine (HH.out).mono ?_; rintro e w1 ⟨rfl, hb⟩)
        | (go_at_call 69; refine (HP.out _ (by assumption)).mono ?_; rintro e w2 ⟨rfl, hb2⟩))
      go_ret
      exact ⟨rfl, StepS.same HT.out hb2⟩
    | true =>
      rw [if_neg (by simp)]
      have HP : Hid (∀ w1, CkAt w w1 → Calls Tryz.prog 69 #[.string q] w1 fun e w' => e = .returned (.bool true) ∧ CkAt w w') := fun w1 hb => (path_t q hqm w1 hpq).mono (fun _ _ hr => ⟨hr.1, hb.step hr.2⟩)
      by_cases hpe : p = q
      · have e1 : (p.toList == q.toList) = true := by rw [str_eq]; simp [hpe]
        rw [if_pos (by rw [hpe])]
        clear h hq0 h1 h2 hl HC2 hpq hpe
        go_enter Tryz.func85, Tryz.ntmps85
        go_wp2_with (first
          | (go_at_call 64; refine (HH.out).mono ?_; rintro e w1 ⟨rfl, hb⟩)
          | (go_at_call 69; refine (HP.out _ (by assumption)).mono ?_; rintro e w2 ⟨rfl, hb2⟩))
        go_ret
        exact ⟨rfl, StepS.same HT.out hb2⟩
      · have e1 : (p.toList == q.toList) = false := by rw [str_eq]; simp [hpe]
        rw [if_neg (fun e => hpe (by rw [← txt_toList p, ← txt_toList q, e]))]
        cases hbk : blocked (drp p.data.toList S.now) q.data.toList with
        | true =>
          rw [if_pos rfl]
          have HCo : Hid (∀ w1, CkAt w w1 → Calls Tryz.prog 101 #[.map nm, .string q, .string p] w1 fun e w' => e = .returned (.bool true) ∧ CkAt w w') := fun w1 hb => (collide_tree nm LN S.now h1 q p w1 (hq0.now.map.below hb (Nat.le_refl _)) true hbk).mono (fun _ _ hr => ⟨hr.1, hb.step hr.2⟩)
          clear h hq0 h1 h2 hl hpq hpe hbk
          go_enter Tryz.func85, Tryz.ntmps85
          go_wp2_with (first
            | (go_at_call 64; refine (HH.out).mono ?_; rintro e w1 ⟨rfl, hb⟩)
            | (go_at_call 69; refine (HP.out _ (by assumption)).mono ?_; rintro e w2 ⟨rfl, hb2⟩; have c22 := HC2.out w2 hb2)
            | (go_at_call 101; refine (HCo.out _ (by assumption)).mono ?_; rintro e w3 ⟨rfl, hb3⟩))
          go_ret
          exact ⟨rfl, StepS.same HT.out hb3⟩
        | false =>
          rw [if_neg (by simp)]
          have HCo : Hid (∀ w1, CkAt w w1 → Calls Tryz.prog 101 #[.map nm, .string q, .string p] w1 fun e w' => e = .returned (.bool false) ∧ CkAt w w') := fun w1 hb => (collide_tree nm LN S.now h1 q p w1 (hq0.now.map.below hb (Nat.le_refl _)) false hbk).mono (fun _ _ hr => ⟨hr.1, hb.step hr.2⟩)
          have HD : Hid (∀ w1, CkAt w w1 → Calls Tryz.prog 76 #[.pointer (some ⟨bt, 0, none⟩), .agg #[.int .i64 3, .string p, .string q, .string ⟨#[]⟩, .int .i64 0]] w1 fun r w' => r = .returned (.tuple #[]) ∧ StepS w X bt room (doSt S 3 p.data.toList q.data.toList) w') := by
            intro w1 hb
            have h1 : TreeS w1 X bt room S := TreeR.below h hb
            refine (do_any bt X 3 p q ⟨#[]⟩ q.data.toList room _ _ _ _ w1 ho.clock0 ho.clock1 h1 ?_ ?_ (by have := ho.files; omega) (by have := ho.pends; omega)).mono (fun r w' hr => ⟨hr.1, StepS.behind hb hr.2⟩)
            · simp only [chCells, toOf, txtOf, Ch.kind, Ch.path, Ch.arg, Ch.time]
              rw [txt_toList, if_pos trivial, if_neg (by omega), txt_toList]; rfl
            · refine ⟨by simp [Ch.kind], by simp only [Ch.path]; rw [size_list]; omega, by simp only [Ch.arg]; rw [size_list]; omega, fun h => by simp [Ch.kind] at h, fun _ => hl⟩
          clear h hq0 h1 h2 hl hpq hpe hbk ho
          go_enter Tryz.func85, Tryz.ntmps85
          go_wp2_with (first
            | (go_at_call 64; refine (HH.out).mono ?_; rintro e w1 ⟨rfl, hb⟩)
            | (go_at_call 69; refine (HP.out _ (by assumption)).mono ?_; rintro e w2 ⟨rfl, hb2⟩; have c22 := HC2.out w2 hb2)
            | (go_at_call 101; refine (HCo.out _ (by assumption)).mono ?_; rintro e w3 ⟨rfl, hb3⟩)
            | (go_at_call 76; refine (HD.out _ (by assumption)).mono ?_; rintro e w4 ⟨rfl, hq4⟩))
          go_ret
          exact ⟨rfl, hq4⟩

def opRead (S : St) (p : BS) : BS × Int := match look S.now p with | none => ([], 4) | some v => (v.1, 0)
def opStat (S : St) (p : BS) : Int × (Int × Int) := match look S.now p with | none => (0, 0, 4) | some v => (v.1.length, v.2, 0)

theorem look_fd {LN : FVs} {now : Fs} (h1 : strip LN = now) {p : ByteArray} {v : FD} (hl : look now p.data.toList = some v) : ∃ ve, fileOr LN p = (v.1, v.2, ve) := by
  rw [← h1, strip_look] at hl
  obtain ⟨f, hf, hv⟩ := Option.map_eq_some_iff.1 hl
  unfold fileOr
  rw [hf, ← hv]
  exact ⟨_, rfl⟩

set_option maxRecDepth 100000 in
set_option maxHeartbeats 2000000 in
theorem read_tree (bt : Nat) (X : Nat → Prop) (p : ByteArray) (room : Int) (S : St) (w : World) (h : TreeS w X bt room S) (hp : p.size ≤ 1048576) :
    Calls Tryz.prog 82 #[.pointer (some ⟨bt, 0, none⟩), .string p] w fun r w' => r = .returned (.tuple #[.string (txt (opRead S p.data.toList).1), .int .i64 (opRead S p.data.toList).2]) ∧ Below w.heap.size w w' := by
  have hpm : p.size ≤ maxLen := by unfold maxLen; omega
  obtain ⟨nm, sm, pv, YN, YS, YP, LN, LS, hq, h1, h2⟩ := id h
  have c2 := hq.cells.cell.2.2.1
  unfold opRead
  cases hl : look S.now p.data.toList with
  | none =>
    have HH := Lib.hid (has_tree nm LN S.now h1 p hpm w hq.now.map false (by rw [hl]; rfl))
    clear h hq h1 h2 hl
    go_enter Tryz.func82, Tryz.ntmps82
    go_wp2_with (go_at_call 64; refine (HH.out).mono ?_; rintro e w1 ⟨rfl, hb⟩)
    go_ret2
    exact ⟨rfl, hb⟩
  | some v =>
    obtain ⟨ve, hv⟩ := look_fd h1 hl
    obtain ⟨vt, vm⟩ := v
    have HH : Hid (Calls Tryz.prog 64 #[.map nm, .string p] w fun e w' => e = .returned (.bool true) ∧ CkAt w w') := has_tree nm LN S.now h1 p hpm w hq.now.map true (by rw [hl]; rfl)
    have HC2 : Hid (∀ w1, CkAt w w1 → w1.cell? ⟨bt, 2, none⟩ = some (.map nm)) := fun w1 hb => (hq.cells.below hb hq.cells.lt).cell.2.2.1
    have HL : Hid (∀ w1, CkAt w w1 → (Instr.lookup 89 (.map nm) (.string p) false).run Tryz.prog w1 = .ok (.agg #[.string (txt vt), .int .i64 vm, .pointer (endA ve)]) w1) := by
      intro w1 h1
      have := (hq.now.map.below h1 (Nat.le_refl _)).look p hpm
      rwa [hv] at this
    have hfl := field0
    clear h hq h1 h2 hl hv
    go_enter Tryz.func82, Tryz.ntmps82
    go_wp2_with (go_at_call 64; refine (HH.out).mono ?_; rintro e w1 ⟨rfl, hb⟩; have c3 := HC2.out w1 hb; have hl3 := HL.out w1 hb)
    go_ret2
    exact ⟨rfl, hb⟩

end Go.Proofs.YtchnbnmajagpjaaGreatDoor

namespace Go.Proofs.YtchnbnmajagpjaaGreatDoor
open Go.RowKit Go.Shelf Go.Maps

set_option maxRecDepth 100000 in
set_option maxHeartbeats 2000000 in
theorem pending_tree (bt : Nat) (X : Nat → Prop) (room : Int) (S : St) (w : World) (h : TreeS w X bt room S) :
    Calls Tryz.prog 37 #[.pointer (some ⟨bt, 0, none⟩)] w fun r w' => r = .returned (.int .i64 (S.pend.length : Nat)) ∧ w = w' := by
  obtain ⟨nm, sm, pv, YN, YS, YP, LN, LS, hq, h1, h2⟩ := id h
  obtain ⟨o, c, rfl, _⟩ := hq.row.shape (fun _ => rfl)
  have c4 := hq.cells.cell.2.2.2.2
  clear h hq h1 h2
  go_enter Tryz.func37, Tryz.ntmps37
  go_wp2
  go_ret
  exact ⟨rfl, rfl⟩

theorem tree_new (w : World) (room : Int) : TreeS (w.alloc (.cells #[.int .i64 room, .int .i64 0, .map none, .map none, .slice none 0 0] 92)) (fun n => n = w.heap.size) w.heap.size room (0, [], [], []) := by
  have hE : ∀ W : World, NowR W (fun _ => False) none [] := fun W => ⟨by simp, .inl ⟨rfl, rfl⟩, by simp, fun _ => 0, by simp, by simp⟩
  refine ⟨none, none, .slice none 0 0, fun _ => False, fun _ => False, fun _ => False, [], [], ⟨World.alloc_heap_new w _, hE _, hE _, RowR.nil _ _ _ _ _, rfl, fun _ h => h.elim, fun _ h => h.elim, fun _ h => h.elim, id, id, id, fun _ h => h.elim, fun _ h => h.elim, fun _ h => h.elim, fun n hn => by rw [hn]; simp⟩, rfl, rfl⟩

set_option maxRecDepth 100000 in
set_option maxHeartbeats 2000000 in
theorem new_ok (room : Int) (h0 : 1 ≤ room) (h1 : room ≤ 1073741824) (w : World) :
    Calls Tryz.prog 27 #[.int .i64 room] w fun r w' => r = .returned (.tuple #[.pointer (some ⟨w.heap.size, 0, none⟩), .int .i64 0]) ∧ TreeS w' (fun n => n = w.heap.size) w.heap.size room (0, [], [], []) ∧ Below w.heap.size w w' := by
  have e1 : ¬ room < 1 := by omega
  have e2 : ¬ 1073741824 < room := by omega
  have HT := Lib.hid (tree_new w room)
  go_enter Tryz.func27, Tryz.ntmps27
  go_wp2
  go_ret2
  exact ⟨rfl, HT.out, (Below.refl _ w).alloc (Nat.le_refl _) _⟩

set_option maxRecDepth 100000 in
set_option maxHeartbeats 2000000 in
theorem new_err (room : Int) (h : room < 1 ∨ 1073741824 < room) (w : World) :
    Calls Tryz.prog 27 #[.int .i64 room] w fun r w' => r = .returned (.tuple #[.pointer none, .int .i64 1]) ∧ w = w' := by
  by_cases h1 : room < 1
  · clear h
    go_enter Tryz.func27, Tryz.ntmps27
    go_wp2
    go_ret2
    exact ⟨rfl, rfl⟩
  · have h2 : 1073741824 < room := by omega
    clear h
    go_enter Tryz.func27, Tryz.ntmps27
    go_wp2
    go_ret2
    exact ⟨rfl, rfl⟩

def opS (S : St) : St := (S.clock, S.now, S.now, [])

set_option maxRecDepth 100000 in
set_option maxHeartbeats 2000000 in
theorem sync_tree (bt : Nat) (X : Nat → Prop) (room : Int) (S : St) (w : World) (h : TreeS w X bt room S) (hfl : S.now.length ≤ 200) :
    Calls Tryz.prog 26 #[.pointer (some ⟨bt, 0, none⟩)] w fun r w' => r = .returned (.tuple #[]) ∧ StepS w X bt room (opS S) w' := by
  obtain ⟨nm, sm, pv, YN, YS, YP, LN, LS, hq, h1, h2⟩ := id h
  have c2 := hq.cells.cell.2.2.1
  have hlt := hq.cells.lt
  have hXl := hq.lt
  have HC : Hid (Calls Tryz.prog 40 #[.map nm] w fun e w' => e = .returned (.map (some w.heap.size)) ∧ TreeC w' bt room S.clock nm sm pv ∧ (IsM w' w.heap.size (bare LN) ∧ Below w.heap.size w w')) :=
    (clone_any nm LN w hq.now.map (by rw [← strip_length, h1]; omega)).mono (fun e w' hr => ⟨hr.1, hq.cells.below hr.2.2 hlt, hr.2⟩)
  have HQ := Lib.hid hq
  have H1 := Lib.hid h1
  clear h hq h1 h2
  go_enter Tryz.func26, Tryz.ntmps26
  go_wp2_with (go_at_call 40; refine (HC.out).mono ?_; rintro e w1 ⟨rfl, hT1, hMB⟩; have d3 := hT1.cell.2.2.2.1; have d4 := hT1.cell.2.2.2.2; have f3 := hT1.frozen 3; have f4 := hT1.frozen 4; have HMB := Lib.hid hMB; clear hMB)
  go_end0
  obtain ⟨hM, hB⟩ := HMB.out
  refine ⟨rfl, ?_⟩
  obtain ⟨W, hW⟩ : ∃ W, W = (w1.setCell ⟨bt, 3, none⟩ (.map (some w.heap.size))).setCell ⟨bt, 4, none⟩ (.slice none 0 0) := ⟨_, rfl⟩
  have hTW : Turned (fun n => n = bt) w1 W := by rw [hW]; exact (Turned.setCell (X := fun n => n = bt) w1 ⟨bt, 3, none⟩ _ rfl).trans (Turned.setCell (X := fun n => n = bt) _ ⟨bt, 4, none⟩ _ rfl)
  have hCW : TreeC W bt room S.clock nm (some w.heap.size) (.slice none 0 0) := by
    rw [hW]
    unfold TreeC at hT1
    simp [TreeC, World.setCell, Array.getElem?_modify, hT1]
  rw [← hW]
  have hq := HQ.out
  have hB1 := turned_below hB
  have hN := (hq.now.kept hB1 (fun _ _ => id)).kept hTW (fun n hn (hx : n = bt) => hq.tn (hx ▸ hn))
  have hS := (NowR.bare hM).kept hTW (fun n (hn : n = w.heap.size) (hx : n = bt) => by omega)
  have hs1 := hB.size
  have hs2 := hTW.size
  have hlw := hM.lt
  refine ⟨fun n => X n ∨ n = w.heap.size, ⟨nm, some w.heap.size, .slice none 0 0, YN, fun n => n = w.heap.size, fun _ => False, LN, bare LN, ⟨hCW, hN, hS, RowR.nil _ _ _ _ _, .inl hq.xt, fun n hn => .inl (hq.xn n hn), fun n hn => .inr hn, fun _ hn => hn.elim, hq.tn, fun hn => by omega, id, fun n hn (hx : n = w.heap.size) => by have := hXl n (hq.xn n hn); omega, fun n _ => id, fun n _ => id, fun n hn => ?_⟩, H1.out, by rw [strip_bare]; exact H1.out⟩,
    ((hB1.wider (fun _ h => h.elim)).andThen hTW (fun n hn => .inl (by rw [hn]; exact hq.xt))), fun n hn => hn.elim .inl (fun h => .inr (by omega))⟩
  rcases hn with h | h
  · have := hXl n h; omega
  · omega

set_option maxRecDepth 100000 in
set_option maxHeartbeats 2000000 in
theorem stat_tree (bt : Nat) (X : Nat → Prop) (p : ByteArray) (room : Int) (S : St) (w : World) (h : TreeS w X bt room S) (hp : p.size ≤ 1048576) :
    Calls Tryz.prog 38 #[.pointer (some ⟨bt, 0, none⟩), .string p] w fun r w' => r = .returned (.tuple #[.agg #[.int .i64 (opStat S p.data.toList).1, .int .i64 (opStat S p.data.toList).2.1], .int .i64 (opStat S p.data.toList).2.2]) ∧ Below w.heap.size w w' := by
  have hpm : p.size ≤ maxLen := by unfold maxLen; omega
  obtain ⟨nm, sm, pv, YN, YS, YP, LN, LS, hq, h1, h2⟩ := id h
  obtain ⟨W, hW⟩ : ∃ W, W = w.alloc (.cells #[.int .i64 0, .int .i64 0] 82) := ⟨_, rfl⟩
  have hB0 : Below w.heap.size w W := by rw [hW]; exact (Below.refl _ w).alloc (Nat.le_refl _) _
  have hsW : W.heap.size = w.heap.size + 1 := by rw [hW]; simp
  have hc0 := hq.cells.below hB0 hq.cells.lt
  have hm0 := hq.now.map.below hB0 (Nat.le_refl _)
  have hx0 : W.heap[w.heap.size]? = some (.cells #[.int .i64 0, .int .i64 0] 82 (0, 0)) := by rw [hW]; exact World.alloc_heap_new w _
  have c2 := hc0.cell.2.2.1
  unfold opStat
  cases hl : look S.now p.data.toList with
  | none =>
    have HH : Hid (Calls Tryz.prog 64 #[.map nm, .string p] W fun e w' => e = .returned (.bool false) ∧ Below w.heap.size w w' ∧ w'.heap[w.heap.size]? = some (.cells #[.int .i64 0, .int .i64 0] 82 (0, 0))) :=
      (has_tree nm LN S.now h1 p hpm W hm0 false (by rw [hl]; rfl)).mono (fun e w' hr => ⟨hr.1, hB0.trans (hr.2.mono (by omega)), (hr.2.block _ (by omega)).trans hx0⟩)
    clear h hq h1 h2 hl hc0 hm0 hB0
    subst hW
    go_enter Tryz.func38, Tryz.ntmps38
    go_wp2_with (go_at_call 64; refine (HH.out).mono ?_; rintro e w1 ⟨rfl, hb, hx⟩; have y0 : w1.cell? ⟨w.heap.size, 0, none⟩ = some (.int .i64 0) := (by rw [Lib.cell_of_heap hx]; rfl); have y1 : w1.cell? ⟨w.heap.size, 1, none⟩ = some (.int .i64 0) := (by rw [Lib.cell_of_heap hx]; rfl); have z0 := Lib.frozen_of_heap hx 0; have z1 := Lib.frozen_of_heap hx 1)
    have hh : ((w1.setCell ⟨w.heap.size, 0, none⟩ (.int .i64 0)).setCell ⟨w.heap.size, 1, none⟩ (.int .i64 0)).heap[w.heap.size]? = some (.cells #[.int .i64 0, .int .i64 0] 82 (0, 0)) := by simp [World.setCell, Array.getElem?_modify, hx]
    have hb2 : Below w.heap.size w ((w1.setCell ⟨w.heap.size, 0, none⟩ (.int .i64 0)).setCell ⟨w.heap.size, 1, none⟩ (.int .i64 0)) := (hb.setCell (p := ⟨w.heap.size, 0, none⟩) (Nat.le_refl _) _).setCell (p := ⟨w.heap.size, 1, none⟩) (Nat.le_refl _) _
    generalize ((w1.setCell ⟨w.heap.size, 0, none⟩ (.int .i64 0)).setCell ⟨w.heap.size, 1, none⟩ (.int .i64 0)) = W2 at hh hb2 ⊢
    have q0 : W2.cell? ⟨w.heap.size, 0, none⟩ = some (.int .i64 0) := by rw [Lib.cell_of_heap hh]; rfl
    have q1 : W2.cell? ⟨w.heap.size, 1, none⟩ = some (.int .i64 0) := by rw [Lib.cell_of_heap hh]; rfl
    exact bodyPost_ret (v := .tuple #[.agg #[.int .i64 0, .int .i64 0], .int .i64 4]) (by simp [results, Tryz.results38, go_sem, q0, q1]) rfl ⟨rfl, hb2⟩
  | some v =>
    obtain ⟨ve, hv⟩ := look_fd h1 hl
    obtain ⟨vt, vm⟩ := v
    have HH : Hid (Calls Tryz.prog 64 #[.map nm, .string p] W fun e w' => e = .returned (.bool true) ∧ CkAt w w' ∧ w'.heap[w.heap.size]? = some (.cells #[.int .i64 0, .int .i64 0] 82 (0, 0))) :=
      (has_tree nm LN S.now h1 p hpm W hm0 true (by rw [hl]; rfl)).mono (fun e w' hr => ⟨hr.1, hB0.trans (hr.2.mono (by omega)), (hr.2.block _ (by omega)).trans hx0⟩)
    have HC2 : Hid (∀ w1, CkAt w w1 → w1.cell? ⟨bt, 2, none⟩ = some (.map nm)) := fun w1 hb => (hq.cells.below hb hq.cells.lt).cell.2.2.1
    have HL : Hid (∀ w1, CkAt w w1 → (Instr.lookup 89 (.map nm) (.string p) false).run Tryz.prog w1 = .ok (.agg #[.string (txt vt), .int .i64 vm, .pointer (endA ve)]) w1) := by
      intro w1 h1
      have := (hq.now.map.below h1 (Nat.le_refl _)).look p hpm
      rwa [hv] at this
    clear h hq h1 h2 hl hc0 hm0 hB0 hv
    subst hW
    go_enter Tryz.func38, Tryz.ntmps38
    go_wp2_with (go_at_call 64; refine (HH.out).mono ?_; rintro e w1 ⟨rfl, hb, hx⟩; have c3 := HC2.out w1 hb; have hl3 := HL.out w1 hb; have hxl := (Array.getElem?_eq_some_iff.1 hx).1; have y0 : w1.cell? ⟨w.heap.size, 0, none⟩ = some (.int .i64 0) := (by rw [Lib.cell_of_heap hx]; rfl); have y1 : w1.cell? ⟨w.heap.size, 1, none⟩ = some (.int .i64 0) := (by rw [Lib.cell_of_heap hx]; rfl); have z0 := Lib.frozen_of_heap hx 0; have z1 := Lib.frozen_of_heap hx 1)
    have hh : (((w1.setCell ⟨w.heap.size, 0, none⟩ (.int .i64 (vt.length : Nat))).setCell ⟨w.heap.size, 1, none⟩ (.int .i64 vm)).alloc (.cells #[.string (txt vt), .int .i64 vm, .pointer (endA ve)] 120)).heap[w.heap.size]? = some (.cells #[.int .i64 (vt.length : Nat), .int .i64 vm] 82 (0, 0)) := by
      refine (Below.heap_alloc _ _ _ (by simpa using hxl)).trans ?_
      simp [World.setCell, Array.getElem?_modify, hx]
    have hb2 : Below w.heap.size w (((w1.setCell ⟨w.heap.size, 0, none⟩ (.int .i64 (vt.length : Nat))).setCell ⟨w.heap.size, 1, none⟩ (.int .i64 vm)).alloc (.cells #[.string (txt vt), .int .i64 vm, .pointer (endA ve)] 120)) := ((hb.setCell (p := ⟨w.heap.size, 0, none⟩) (Nat.le_refl _) _).setCell (p := ⟨w.heap.size, 1, none⟩) (Nat.le_refl _) _).alloc (by simp; omega) _
    generalize (((w1.setCell ⟨w.heap.size, 0, none⟩ (.int .i64 (vt.length : Nat))).setCell ⟨w.heap.size, 1, none⟩ (.int .i64 vm)).alloc (.cells #[.string (txt vt), .int .i64 vm, .pointer (endA ve)] 120)) = W2 at hh hb2 ⊢
    have q0 : W2.cell? ⟨w.heap.size, 0, none⟩ = some (.int .i64 (vt.length : Nat)) := by rw [Lib.cell_of_heap hh]; rfl
    have q1 : W2.cell? ⟨w.heap.size, 1, none⟩ = some (.int .i64 vm) := by rw [Lib.cell_of_heap hh]; rfl
    exact bodyPost_ret (v := .tuple #[.agg #[.int .i64 (vt.length : Nat), .int .i64 vm], .int .i64 0]) (by simp [results, Tryz.results38, go_sem, q0, q1]) rfl ⟨rfl, hb2⟩

end Go.Proofs.YtchnbnmajagpjaaGreatDoor

namespace Go.Proofs.YtchnbnmajagpjaaGreatDoor
open Go.RowKit Go.Maps Go.Sort Go.Shelf

def laysKeys_ren : Go.Shelf.Ren := ⟨fun | 7 => 62 | 10 => 92 | n => n, fun | 23 => 89 | 26 => 9 | 3 => 120 | 28 => 116 | 0 => 0 | 27 => 115 | 33 => 107 | 4 => 4 | n => n, fun | n => n⟩
theorem laysKeys : Go.Proofs.SlLaysZ.n7 Tryz.prog laysKeys_ren := {
  mixed := by kernel_rfl
  f7 := ⟨Tryz.f62.name, by decide, Tryz.func62.trans (congrArg some (by kernel_rfl))⟩
  f10 := ⟨Tryz.f92.name, by decide, Tryz.func92.trans (congrArg some (by kernel_rfl))⟩
  t0 := Tryz.underlying0
  a0 := Tryz.isAgg0
  z0 := Tryz.sizeOf0
  v0 := Tryz.zeroValue0
  t4 := Tryz.underlying4
  a4 := Tryz.isAgg4
  z4 := Tryz.sizeOf4
  v4 := Tryz.zeroValue4
  t23 := Tryz.underlying89
  a23 := Tryz.isAgg89
  z23 := Tryz.sizeOf89
  v23 := Tryz.zeroValue89
  t26 := Tryz.underlying9
  a26 := Tryz.isAgg9
  z26 := Tryz.sizeOf9
  v26 := Tryz.zeroValue9
  t27 := Tryz.underlying115
  a27 := Tryz.isAgg115
  z27 := Tryz.sizeOf115
  v27 := Tryz.zeroValue115
  t28 := Tryz.underlying116
  a28 := Tryz.isAgg116
  z28 := Tryz.sizeOf116
  v28 := Tryz.zeroValue116
  t33 := Tryz.underlying107
  a33 := Tryz.isAgg107
  z33 := Tryz.sizeOf107
  v33 := Tryz.zeroValue107 }
def laysSorted_ren : Go.Shelf.Ren := ⟨fun | 6 => 61 | 8 => 90 | 9 => 91 | 11 => 107 | 13 => 109 | 12 => 108 | 23 => 129 | 24 => 130 | 14 => 120 | 15 => 121 | 16 => 122 | 17 => 123 | 18 => 124 | 19 => 125 | 20 => 126 | 21 => 127 | 22 => 128 | 25 => 140 | 26 => 141 | 27 => 142 | 28 => 143 | 29 => 144 | 30 => 145 | 31 => 153 | n => n, fun | 26 => 9 | 28 => 116 | 24 => 39 | 0 => 0 | 3 => 3 | 37 => 150 | 48 => 137 | 50 => 174 | 4 => 4 | 40 => 166 | 39 => 165 | 45 => 170 | 5 => 5 | 9 => 9 | 51 => 188 | 55 => 192 | 57 => 196 | 58 => 197 | 33 => 107 | n => n, fun | n => n⟩
theorem laysSorted : Go.Proofs.SlLaysZ.n6 Tryz.prog laysSorted_ren := {
  mixed := by kernel_rfl
  f6 := ⟨Tryz.f61.name, by decide, Tryz.func61.trans (congrArg some (by kernel_rfl))⟩
  f8 := ⟨Tryz.f90.name, by decide, Tryz.func90.trans (congrArg some (by kernel_rfl))⟩
  f11 := ⟨Tryz.f107.name, by decide, Tryz.func107.trans (congrArg some (by kernel_rfl))⟩
  t0 := Tryz.underlying0
  a0 := Tryz.isAgg0
  z0 := Tryz.sizeOf0
  v0 := Tryz.zeroValue0
  t24 := Tryz.underlying39
  a24 := Tryz.isAgg39
  z24 := Tryz.sizeOf39
  v24 := Tryz.zeroValue39
  t26 := Tryz.underlying9
  a26 := Tryz.isAgg9
  z26 := Tryz.sizeOf9
  v26 := Tryz.zeroValue9
  t28 := Tryz.underlying116
  a28 := Tryz.isAgg116
  z28 := Tryz.sizeOf116
  v28 := Tryz.zeroValue116
  i26 := by kernel_rfl }
def laysSort_ren : Go.Shelf.Ren := ⟨fun | 6 => 91 | 8 => 109 | 9 => 108 | 19 => 129 | 20 => 130 | 21 => 120 | 22 => 121 | 23 => 122 | 24 => 123 | 25 => 124 | 26 => 125 | 27 => 126 | 28 => 127 | 29 => 128 | 36 => 140 | 31 => 141 | 32 => 142 | 37 => 143 | 38 => 144 | 39 => 145 | 41 => 153 | n => n, fun | 27 => 39 | 29 => 9 | 3 => 3 | 32 => 150 | 26 => 39 | 0 => 0 | 44 => 137 | 46 => 174 | 4 => 4 | 36 => 166 | 35 => 165 | 41 => 170 | 5 => 5 | 9 => 9 | 53 => 188 | 57 => 192 | 63 => 196 | 64 => 197 | n => n, fun | n => n⟩
theorem laysSort : Go.Proofs.SlLaysM.n6 Tryz.prog laysSort_ren := {
  mixed := by kernel_rfl
  f6 := ⟨Tryz.f91.name, by decide, Tryz.func91.trans (congrArg some (by kernel_rfl))⟩
  f8 := Tryz.func109.trans (congrArg some (by kernel_rfl))
  f9 := ⟨Tryz.f108.name, by decide, Tryz.func108.trans (congrArg some (by kernel_rfl))⟩
  f19 := Tryz.func129.trans (congrArg some (by kernel_rfl))
  f20 := Tryz.func130.trans (congrArg some (by kernel_rfl))
  f21 := ⟨Tryz.f120.name, by decide, Tryz.func120.trans (congrArg some (by kernel_rfl))⟩
  f22 := ⟨Tryz.f121.name, by decide, Tryz.func121.trans (congrArg some (by kernel_rfl))⟩
  f23 := ⟨Tryz.f122.name, by decide, Tryz.func122.trans (congrArg some (by kernel_rfl))⟩
  f24 := ⟨Tryz.f123.name, by decide, Tryz.func123.trans (congrArg some (by kernel_rfl))⟩
  f25 := ⟨Tryz.f124.name, by decide, Tryz.func124.trans (congrArg some (by kernel_rfl))⟩
  f26 := ⟨Tryz.f125.name, by decide, Tryz.func125.trans (congrArg some (by kernel_rfl))⟩
  f27 := ⟨Tryz.f126.name, by decide, Tryz.func126.trans (congrArg some (by kernel_rfl))⟩
  f28 := ⟨Tryz.f127.name, by decide, Tryz.func127.trans (congrArg some (by kernel_rfl))⟩
  f29 := ⟨Tryz.f128.name, by decide, Tryz.func128.trans (congrArg some (by kernel_rfl))⟩
  f31 := Tryz.func141.trans (congrArg some (by kernel_rfl))
  f32 := Tryz.func142.trans (congrArg some (by kernel_rfl))
  f36 := ⟨Tryz.f140.name, by decide, Tryz.func140.trans (congrArg some (by kernel_rfl))⟩
  f37 := ⟨Tryz.f143.name, by decide, Tryz.func143.trans (congrArg some (by kernel_rfl))⟩
  f38 := ⟨Tryz.f144.name, by decide, Tryz.func144.trans (congrArg some (by kernel_rfl))⟩
  f39 := ⟨Tryz.f145.name, by decide, Tryz.func145.trans (congrArg some (by kernel_rfl))⟩
  f41 := ⟨Tryz.f153.name, by decide, Tryz.func153.trans (congrArg some (by kernel_rfl))⟩
  t0 := Tryz.underlying0
  a0 := Tryz.isAgg0
  z0 := Tryz.sizeOf0
  v0 := Tryz.zeroValue0
  t3 := Tryz.underlying3
  a3 := Tryz.isAgg3
  z3 := Tryz.sizeOf3
  v3 := Tryz.zeroValue3
  t4 := Tryz.underlying4
  a4 := Tryz.isAgg4
  z4 := Tryz.sizeOf4
  v4 := Tryz.zeroValue4
  t5 := Tryz.underlying5
  a5 := Tryz.isAgg5
  z5 := Tryz.sizeOf5
  v5 := Tryz.zeroValue5
  t9 := Tryz.underlying9
  a9 := Tryz.isAgg9
  z9 := Tryz.sizeOf9
  v9 := Tryz.zeroValue9
  t26 := Tryz.underlying39
  a26 := Tryz.isAgg39
  z26 := Tryz.sizeOf39
  v26 := Tryz.zeroValue39
  t27 := Tryz.underlying39
  a27 := Tryz.isAgg39
  z27 := Tryz.sizeOf39
  v27 := Tryz.zeroValue39
  t29 := Tryz.underlying9
  a29 := Tryz.isAgg9
  z29 := Tryz.sizeOf9
  v29 := Tryz.zeroValue9
  t32 := Tryz.underlying150
  a32 := Tryz.isAgg150
  z32 := Tryz.sizeOf150
  v32 := Tryz.zeroValue150
  t35 := Tryz.underlying165
  a35 := Tryz.isAgg165
  z35 := Tryz.sizeOf165
  v35 := Tryz.zeroValue165
  t36 := Tryz.underlying166
  a36 := Tryz.isAgg166
  z36 := Tryz.sizeOf166
  v36 := Tryz.zeroValue166
  t41 := Tryz.underlying170
  a41 := Tryz.isAgg170
  z41 := Tryz.sizeOf170
  v41 := Tryz.zeroValue170
  t44 := Tryz.underlying137
  a44 := Tryz.isAgg137
  z44 := Tryz.sizeOf137
  v44 := Tryz.zeroValue137
  t46 := Tryz.underlying174
  a46 := Tryz.isAgg174
  z46 := Tryz.sizeOf174
  v46 := Tryz.zeroValue174
  t53 := Tryz.underlying188
  a53 := Tryz.isAgg188
  z53 := Tryz.sizeOf188
  v53 := Tryz.zeroValue188
  t57 := Tryz.underlying192
  a57 := Tryz.isAgg192
  z57 := Tryz.sizeOf192
  v57 := Tryz.zeroValue192
  t63 := Tryz.underlying196
  a63 := Tryz.isAgg196
  z63 := Tryz.sizeOf196
  v63 := Tryz.zeroValue196
  t64 := Tryz.underlying197
  a64 := Tryz.isAgg197
  z64 := Tryz.sizeOf197
  v64 := Tryz.zeroValue197 }

theorem sortsF (m : Nat) : AnyZ.SortsIn Tryz.prog laysSorted_ren Fence.wide m :=
  ⟨fun blk off cap ss W hH hblk hsz => callsIn_wide.2 (AnyM.slices_Sort_string laysSort blk off cap ss W hH hblk hsz),
   fun p cap W => callsIn_wide.2 (AnyM.slices_Sort_string_none laysSort p cap W)⟩

/-- The value that maps.Keys hands back for a map that is laid at n. -/
def keysV (n : Nat) : Value := .func (.func 92) #[] #[.pointer (some ⟨n, 0, none⟩)]
theorem keys_any (m : Option Nat) (w : World) : Calls Tryz.prog 62 #[.map m] w fun e w' => e = .returned (keysV w.heap.size) ∧ w' = w.alloc (.cells #[.map m] 89) :=
  callsIn_wide.1 (AnyZ.keys_in laysKeys Fence.wide 5 trivial rfl m w)

theorem sort_same {l : List BS} (h : l.Pairwise (fun a b => a < b)) {ss : List BS} (hp : ss.Perm l) : ss.mergeSort (fun x y => decide (x ≤ y)) = l := by
  have h1 := mergeSort_of_perm hp
  have h2 : l.mergeSort leB = l := List.mergeSort_of_pairwise (h.imp (fun {a b} hlt => by simp only [leB, decide_eq_true_eq]; exact List.not_lt.1 (fun h' => bs_lt_irrefl a (bs_lt_trans hlt h'))))
  exact h1.trans h2
theorem keys_dat (L : FVs) : strKeys (dat L) = L.map (·.1) := by
  show (L.map fun y => ((.string y.1 : Lit), (.held y.2 : DataW FV))).map (fun p => strOf p.1) = _
  rw [List.map_map]; rfl
def strCell (p : BS) : List Value := [.string (txt p)]
theorem flat_str (l : List BS) : l.flatMap strCell = l.map encStr := by
  induction l with
  | nil => rfl
  | cons x r ih => rw [List.flatMap_cons, ih]; rfl

set_option maxHeartbeats 1000000 in
theorem sorted_any (m : Option Nat) (L : FVs) (w : World) (h : MapV w m L) (hl : L.length < 1073741824) :
    Calls Tryz.prog 61 #[keysV w.heap.size] (w.alloc (.cells #[.map m] 89)) fun e w' => ∃ v, e = .returned v ∧ RowR 9 1 strCell w' (fun n => w.heap.size ≤ n) v (L.map (·.1)) ∧ Below w.heap.size w w' := by
  have fin : ∀ (v : Value) (ss : List BS) (w' : World), ss.Perm (L.map (·.1)) → w'.ownsRow (w.alloc (.cells #[.map m] 89)).heap.size 9 1 v ss.length ((ss.mergeSort (fun x y => decide (x ≤ y))).map encStr) →
      Below (w.alloc (.cells #[.map m] 89)).heap.size (w.alloc (.cells #[.map m] 89)) w' → RowR 9 1 strCell w' (fun n => w.heap.size ≤ n) v (L.map (·.1)) ∧ Below w.heap.size w w' := by
    intro v ss w' hp hr hb
    have hs : (L.map (·.1)).Pairwise (fun a b => a < b) := List.pairwise_map.2 h.srt
    rw [sort_same hs hp] at hr
    have hlen := hp.length_eq
    refine ⟨⟨?_, fun g hg => ?_⟩, ((Below.refl _ w).alloc (Nat.le_refl _) _).trans (hb.mono (by simp))⟩
    · rw [flat_str, ← hlen]
      refine ⟨hr.1, ?_⟩
      rcases hr.2 with hn | ⟨g, cap, cur, h1, _, h2⟩
      · exact .inl hn
      · exact .inr ⟨g, cap, cur, h1, Nat.zero_le _, h2⟩
    · rcases hr.2 with ⟨rfl, _⟩ | ⟨g', cap, cur, rfl, hb', _⟩
      · simp [Value.ownBlock] at hg
      · simp [Value.ownBlock] at hg hb'
        show w.heap.size ≤ g
        omega
  rcases h with ⟨rfl, rfl⟩ | ⟨b, rfl, hM⟩
  · have hseq : SeqGives Fence.wide 2 Tryz.prog 92 #[.pointer (some ⟨w.heap.size, 0, none⟩)] encStr (fun ss : List BS => ss = []) 0 (w.alloc (.cells #[.map none] 89)) :=
      AnyZ.keys_gives_nil (ρ := laysKeys_ren) { laysKeys with } Fence.wide _ trivial rfl w.heap.size _ (by simp) (by simp)
    refine (callsIn_wide.1 (AnyZ.sorted_in laysSorted Fence.wide 5 trivial trivial trivial trivial rfl (by omega) (sortsF _) (enters_of Tryz.func91 (by kernel_rfl) rfl) 92 #[.pointer (some ⟨w.heap.size, 0, none⟩)] trivial
      (enters_of Tryz.func92 (by kernel_rfl) rfl) _ 0 (Nat.zero_le _) (by omega) _ hseq)).mono ?_
    rintro e w' ⟨v, ss, rfl, rfl, hr, _, hb⟩
    exact ⟨v, rfl, fin v [] w' (List.Perm.refl _) hr hb⟩
  · have hown := hM.1
    have hbl := hown.lt
    have hseq : SeqGives Fence.wide 2 Tryz.prog 92 #[.pointer (some ⟨w.heap.size, 0, none⟩)] encStr (fun ss => ss.Perm (strKeys (dat L))) (Maps.size (dat L)) (w.alloc (.cells #[.map (some b)] 89)) :=
      AnyZ.keys_gives (ρ := laysKeys_ren) { laysKeys with } Fence.wide _ trivial rfl (by omega) w.heap.size b L.length (dat L) _ (by simp) (by simp) (by
        obtain ⟨es, clock, hb, Ft, hs, hD⟩ := hown
        exact ⟨es, clock, (Below.heap_alloc _ _ b hbl).trans hb, Ft, hs, hD⟩)
    refine (callsIn_wide.1 (AnyZ.sorted_in laysSorted Fence.wide 5 trivial trivial trivial trivial rfl (by omega) (sortsF _) (enters_of Tryz.func91 (by kernel_rfl) rfl) 92 #[.pointer (some ⟨w.heap.size, 0, none⟩)] trivial
      (enters_of Tryz.func92 (by kernel_rfl) rfl) _ _ (by rw [dat_size]; unfold maxLen; omega) (by rw [dat_size]; omega) _ hseq)).mono ?_
    rintro e w' ⟨v, ss, rfl, hS, hr, _, hb⟩
    rw [keys_dat] at hS
    exact ⟨v, rfl, fin v ss w' hS hr hb⟩

end Go.Proofs.YtchnbnmajagpjaaGreatDoor

namespace Go.Proofs.YtchnbnmajagpjaaGreatDoor
open Go.RowKit Go.Shelf Go.Maps

theorem rowFile : RowT 73 86 2 :=
  rowT_of (.agg #[.string ⟨#[]⟩, .string ⟨#[]⟩]) 32 Tryz.underlying73 (by kernel_rfl) (by decide) rfl (by decide)
abbrev AF := BS × BS
def afCells (f : AF) : List Value := [.string (txt f.1), .string (txt f.2)]
def filesOf (l : Fs) : List AF := l.map fun y => (y.1, y.2.1)

/-- An append whose run is known. -/
theorem wpList_append_eq {P : Program} {w : World} {ops : Array Oper} {rest : List Oper} {o : Oper} {a : Act} {Q : Exit → Act → World → Prop} (hg : o.guard = none) (s x : Operand) (t : TypeId)
    (hop : o.op = Op.call { callee := Callee.builtin Builtin.append, args := #[s, x], argTypes := #[t, t] }) (v u v' : Value) (w' : World) (hs : a.eval s = v) (hx : a.eval x = u)
    (hrun : (Builtin.append_ #[t, t] o.type #[v, u]).run P w = .ok v' w') (h : wpList P ops Q rest (a.put o.dst v') w') : wpList P ops Q (o :: rest) a w := by
  refine wpList_plain hg fun K hK => ?_
  unfold Oper.wp
  simp [execOp, hop, resolve, invoke, builtin, hs, hx, hrun, Result.andThen]
  exact hK _ _ h

/-- How it stands in All: the tree is there, the paths' row is there, and so many files are told. -/
def AllAt (w0 w2 : World) (kv : Value) (L : FVs) (k : Nat) (v : Value) (wr : World) : Prop :=
  Below w0.heap.size w0 wr ∧ w2.heap.size ≤ wr.heap.size ∧ RowR 9 1 strCell wr (fun n => w0.heap.size ≤ n ∧ n < w2.heap.size) kv (L.map (·.1)) ∧
  RowR 86 2 afCells wr (fun n => w2.heap.size ≤ n) v ((filesOf (strip L)).take k)
theorem AllAt.push {w0 w2 wr : World} {kv v : Value} {L : FVs} {k : Nat} (h : AllAt w0 w2 kv L k v wr) (hw : w0.heap.size ≤ w2.heap.size) (hl : L.length < 1073741824) (p t : BS) (hk : (filesOf (strip L))[k]? = some (p, t)) :
    ∃ v' w', (Builtin.append_ #[73, 73] 73 #[v, .slice (some ⟨wr.heap.size, 0, none⟩) 1 1]).run Tryz.prog (wr.alloc (.cells #[.string (txt p), .string (txt t)] 86)) = .ok v' w' ∧ AllAt w0 w2 kv L (k + 1) v' w' ∧ ∃ o n c, v' = .slice o n c := by
  obtain ⟨h1, h2, h3, h4⟩ := h
  have hT : Turned (fun _ => False) wr (wr.alloc (.cells #[.string (txt p), .string (txt t)] 86)) := Turned.alloc _ _ _
  have hlen : ((filesOf (strip L)).take k).length < 1099511627776 := by
    have := List.length_take_le k (filesOf (strip L))
    have hx : (filesOf (strip L)).length = L.length := by unfold filesOf; rw [List.length_map, strip_length]
    rw [List.length_take]; omega
  obtain ⟨v', w', r1, r2, r3, o, c, r4⟩ := (h4.kept hT (fun _ _ => id)).push rowFile (p, t) rfl (by simp [afCells, Value.oneCell']) wr.heap.size 1 (0, 0) (World.alloc_heap_new wr _) hlen 73
  have hs := r3.size
  rw [World.size_alloc] at hs r2
  refine ⟨v', w', r1, ⟨?_, by omega, (h3.kept hT (fun _ _ => id)).kept r3 (fun n hn hx => by omega), ?_⟩, o, _, c, r4⟩
  · exact (h1.alloc (Nat.le_trans hw h2) _).trans (r3.below (by have := h1.size; simp; omega) (fun n hn => Nat.le_trans hw hn))
  · have e : (filesOf (strip L)).take (k + 1) = (filesOf (strip L)).take k ++ [(p, t)] := by
      rw [List.take_add_one, hk]; rfl
    rw [e]
    exact r2.wider (fun n hn => by rcases hn with h | h <;> omega)

theorem filesOf_get {L : FVs} {k : Nat} (h : k < L.length) : (filesOf (strip L))[k]? = some (L[k].1, L[k].2.1) ∧ (L.map (·.1))[k]? = some L[k].1 := by
  unfold filesOf strip
  rw [List.map_map, List.getElem?_map, List.getElem?_map, List.getElem?_eq_getElem h]
  exact ⟨rfl, rfl⟩

set_option maxRecDepth 100000 in
set_option maxHeartbeats 4000000 in
theorem all_tree (bt : Nat) (X : Nat → Prop) (room : Int) (S : St) (w : World) (h : TreeS w X bt room S) (ho : OkS room S) (hpl : ∀ y ∈ S.now, y.1.length ≤ 1048576) :
    Calls Tryz.prog 34 #[.pointer (some ⟨bt, 0, none⟩)] w fun r w' => ∃ v, r = .returned v ∧ RowR 86 2 afCells w' (fun n => w.heap.size ≤ n) v (filesOf S.now) ∧ Below w.heap.size w w' := by
  obtain ⟨nm, sm, pv, YN, YS, YP, LN, LS, hq, h1, h2⟩ := id h
  have hl : LN.length < 1073741824 := by rw [← strip_length, h1]; have := ho.files; omega
  have c2 := hq.cells.cell.2.2.1
  have HK := Lib.hid (keys_any nm w)
  have HS := Lib.hid (sorted_any nm LN w hq.now.map hl)
  have HC2 : Hid (∀ w1, CkAt w w1 → w1.cell? ⟨bt, 2, none⟩ = some (.map nm)) := fun w1 hb => (hq.cells.below hb hq.cells.lt).cell.2.2.1
  have HL : Hid (∀ w1, CkAt w w1 → ∀ y ∈ LN, (Instr.lookup 89 (.map nm) (.string (txt y.1)) false).run Tryz.prog w1 = .ok (.agg #[.string (txt y.2.1), .int .i64 y.2.2.1, .pointer (endA y.2.2.2)]) w1) := by
    intro w1 hb y hm
    have hyl : y.1.length ≤ 1048576 := hpl (y.1, fd y.2) (by rw [← h1]; exact List.mem_map.2 ⟨_, hm, rfl⟩)
    have := (hq.now.map.below hb (Nat.le_refl _)).look (txt y.1) (by rw [txt_size]; unfold maxLen; omega)
    unfold fileOr at this
    rw [txt_data, look_of_mem hq.now.map.srt (v := y.2) hm] at this
    exact this
  have hfl := field0
  rw [← h1]
  have hlc : (LN.length : Int) < 9223372036854775807 := by omega
  clear h hq h1 h2 ho hpl
  go_enter Tryz.func34, Tryz.ntmps34
  go_wp2_with (first
    | (go_at_call 62; refine (HK.out).mono ?_; rintro e w1 ⟨rfl, rfl⟩)
    | (go_at_call 61; refine (HS.out).mono ?_; rintro e w2 ⟨kv, rfl, hr, hb⟩; obtain ⟨ko, kc, rfl, hsh⟩ := hr.shape (fun _ => rfl); rw [List.length_map] at hr hsh ⊢))
  have hA0 : AllAt w w2 (.slice ko LN.length kc) LN 0 (.slice none 0 0) w2 := ⟨hb, Nat.le_refl _, hr.tight, RowR.nil _ _ _ _ _⟩
  have hw2 := hb.size
  have HSH := Lib.hid hsh
  clear hr hsh HK HS
  rcases Nat.eq_zero_or_pos LN.length with hz | hpos
  · clear HSH
    go_loopw [13, 3] (fun i v wr => ∃ k : Nat, k ≤ LN.length ∧ i = .int .i64 k ∧ AllAt w w2 (.slice ko LN.length kc) LN k v wr) (fun i _ _ => LN.length - (intOf i).toNat)
    case atStart => exact ⟨0, Nat.zero_le _, rfl, hA0⟩
    case round =>
      obtain ⟨k, hk, rfl, hA⟩ := hrel
      have hlt : ¬ k < LN.length := by omega
      · have hE := Lib.hid hA
        have hkk : k = LN.length := by omega
        clear hA HL HC2
        go_wp2
        go_ret
        refine ⟨_, rfl, ?_, hE.out.1⟩
        have h4 := hE.out.2.2.2
        rw [List.take_of_length_le (by rw [hkk]; unfold filesOf; rw [List.length_map, strip_length]; exact Nat.le_refl _)] at h4
        exact h4.wider (fun n hn => Nat.le_trans hw2 hn)
  · obtain ⟨g, rfl, _⟩ := HSH.out.2.2.2 0 LN[0].1 (filesOf_get hpos).2
    clear HSH
    go_loopw [13, 3] (fun i v wr => ∃ k : Nat, k ≤ LN.length ∧ i = .int .i64 k ∧ AllAt w w2 (.slice (some ⟨g, 0, none⟩) LN.length kc) LN k v wr) (fun i _ _ => LN.length - (intOf i).toNat)
    case atStart => exact ⟨0, Nat.zero_le _, rfl, hA0⟩
    case round =>
      obtain ⟨k, hk, rfl, hA⟩ := hrel
      by_cases hlt : k < LN.length
      · have hcell : wr.cell? ⟨g, k, none⟩ = some (.string (txt LN[k].1)) := by
          obtain ⟨o, c, hv, _, _, _, hcs⟩ := hA.2.2.1.shape (fun _ => rfl)
          obtain ⟨g', hg', hc⟩ := hcs k LN[k].1 (filesOf_get hlt).2
          rw [List.length_map] at hv
          cases hv
          cases hg'
          have := hc 0 (by omega)
          simpa [strCell] using this
        obtain ⟨v', w4, hrun, hA', vo, vn, vc, rfl⟩ := hA.push hw2 hl _ _ (filesOf_get hlt).1
        have c3 := HC2.out wr hA.1
        have hl3 := HL.out wr hA.1 LN[k] (List.getElem_mem hlt)
        generalize LN[k] = y at hcell hrun hl3
        obtain ⟨yp, yt, ym, ye⟩ := y
        simp only at hcell hrun hl3
        have HA' := Lib.hid hA'
        clear hA hA' HL HC2
        go_wp2_with (first
          | (at_builtin; refine wpList_append_eq rfl _ _ 73 rfl _ _ _ w4 rfl rfl hrun ?_)
          | go_in)
        go_roundw
        case rel => exact ⟨k + 1, hlt, by go_num, HA'.out⟩
        case measure => simp [intOf]; omega
      · have hE := Lib.hid hA
        have hkk : k = LN.length := by omega
        clear hA HL HC2
        go_wp2
        go_ret
        refine ⟨_, rfl, ?_, hE.out.1⟩
        have h4 := hE.out.2.2.2
        rw [List.take_of_length_le (by rw [hkk]; unfold filesOf; rw [List.length_map, strip_length]; exact Nat.le_refl _)] at h4
        exact h4.wider (fun n hn => Nat.le_trans hw2 hn)

end Go.Proofs.YtchnbnmajagpjaaGreatDoor

namespace Go.Proofs.YtchnbnmajagpjaaGreatDoor
open Go.RowKit Go.Shelf Go.Maps

/-- A whole row, put behind an empty one of the call's own. -/
theorem RowR.copy {α : Type} {t E : TypeId} {k : Nat} {enc : α → List Value} {w W : World} {P : Nat → Prop} {g c : Nat} {l : List α} (hT : RowT t E k) (h : RowR E k enc w P (.slice (some ⟨g, 0, none⟩) l.length c) l) (_hk : ∀ x, (enc x).length = k) (h1 : ∀ x, ∀ u ∈ enc x, u.oneCell' = true)
    (hl : l.length < 1073741824) (ty : TypeId) (hW : W = w.alloc (.cells #[] E)) :
    ∃ v' w', (Builtin.append_ #[t, t] ty #[.slice (some ⟨w.heap.size, 0, none⟩) 0 0, .slice (some ⟨g, 0, none⟩) l.length c]).run Tryz.prog W = .ok v' w' ∧ RowR E k enc w' (fun n => w.heap.size ≤ n) v' l ∧ Below w.heap.size w w' := by
  obtain ⟨i, z, bytes, hi, hz, hs, hby, hzs, hb64⟩ := hT.info
  have hn0 : W.ownsRow w.heap.size E k (.slice (some ⟨w.heap.size, 0, none⟩) 0 0) 0 [] := by
    refine ⟨by simp, .inr ⟨w.heap.size, 0, #[], rfl, Nat.le_refl _, ?_, Nat.le_refl _, by simp [maxLen], by simp, by simp⟩⟩
    rw [hW]; exact World.alloc_heap_new w _
  have hWs : W.heap.size = w.heap.size + 1 := by rw [hW]; simp
  have hlenf : (l.flatMap enc).length = l.length * k := h.1.1
  obtain ⟨v', w', hr, h2, h3, h4⟩ := run_append_own (P := Tryz.prog) (w := W) w.heap.size t ty E i z k bytes hT.under hi hz hs hby hzs hT.pos (.slice (some ⟨w.heap.size, 0, none⟩) 0 0) 0 [] hn0 ⟨g, 0, none⟩ l.length c (l.flatMap enc) hlenf (fun j u hu => by
      rcases h.1.2 with ⟨hv, _⟩ | ⟨g', cap, cur, hv, _, hgg, q1, q2, q3, q4⟩
      · cases hv
      · cases hv
        rw [Addr.add_lit, Nat.zero_add]
        have hg2 : W.heap[g]? = some (.cells cur E (0, 0)) := by rw [hW]; exact (Below.heap_alloc _ _ _ (Array.getElem?_eq_some_iff.1 hgg).1).trans hgg
        rw [Lib.cell_of_heap hg2]
        have hj : j < l.length * k := by rw [← hlenf]; exact (List.getElem?_eq_some_iff.1 hu).1
        rw [← q4, List.getElem?_take_of_lt hj] at hu
        simpa using hu) (fun u hu => by
      obtain ⟨x, _, hx⟩ := List.mem_flatMap.1 hu
      exact h1 x u hx) (by unfold maxLen; omega) (by
        calc (0 + l.length) * bytes ≤ 1073741824 * 64 := Nat.mul_le_mul (by omega) hb64
          _ ≤ 140737488355328 := by omega) (by omega)
  refine ⟨v', w', hr, ⟨?_, fun n hn => ?_⟩, ?_⟩
  · simp only [Nat.zero_add, List.nil_append] at h2
    refine ⟨h2.1, ?_⟩
    rcases h2.2 with hx | ⟨g2, cap, cur, r1, _, r2⟩
    · exact .inl hx
    · exact .inr ⟨g2, cap, cur, r1, Nat.zero_le _, r2⟩
  · rcases h2.2 with ⟨rfl, _⟩ | ⟨g2, cap, cur, rfl, r1, _⟩
    · simp [Value.ownBlock] at hn
    · simp [Value.ownBlock] at hn; omega
  · have hT1 : Turned (fun n => n = w.heap.size) W w' := turned_grown h3 (fun g hg => by simp [Value.ownBlock] at hg; omega)
    have h0 : Turned (fun _ => False) w W := by rw [hW]; exact Turned.alloc _ _ _
    exact (h0.andThen hT1 (fun n hn => .inr (by omega))).below (Nat.le_refl _) (fun _ h => h.elim)

theorem ch_one (x : Ch) : ∀ u ∈ chCells x, u.oneCell' = true := by simp [chCells, Value.oneCell']

end Go.Proofs.YtchnbnmajagpjaaGreatDoor

namespace Go.Proofs.YtchnbnmajagpjaaGreatDoor
open Go.RowKit Go.Shelf Go.Maps

def tornC (c : Ch) (part : Int) : Ch := (c.kind, c.path, c.arg.take part.toNat, c.time)

set_option maxRecDepth 100000 in
set_option maxHeartbeats 1000000 in
theorem mayTear_any (k : Nat) (p q s : ByteArray) (t : Int) (hk : k ≤ 3) (w : World) :
    Calls Tryz.prog 42 #[.agg #[.int .i64 k, .string p, .string q, .string s, .int .i64 t]] w fun e w' => e = .returned (.bool (decide (k ≤ 1))) ∧ Below w.heap.size w w' := by
  rcases (show k = 0 ∨ k = 1 ∨ k = 2 ∨ k = 3 by omega) with rfl | rfl | rfl | rfl
  all_goals (
    clear hk
    go_enter Tryz.func42, Tryz.ntmps42
    go_wp2
    go_ret
    exact ⟨rfl, (Below.refl _ w).alloc (Nat.le_refl _) _⟩)

set_option maxRecDepth 100000 in
set_option maxHeartbeats 1000000 in
theorem torn_any (k : Nat) (p q s : ByteArray) (t : Int) (part : Int) (hp : 1 ≤ part) (hp2 : part < 9223372036854775808) (_hs : s.size < 4611686018427387904) (w : World) :
    Calls Tryz.prog 43 #[.agg #[.int .i64 k, .string p, .string q, .string s, .int .i64 t], .int .i64 part] w fun e w' =>
      e = .returned (.agg #[.int .i64 k, .string p, .string q, .string (txt (s.data.toList.take part.toNat)), .int .i64 t]) ∧ Below w.heap.size w w' := by
  obtain ⟨m, hm⟩ : ∃ m : Nat, m = min part.toNat s.size := ⟨_, rfl⟩
  have hmin : min part (s.size : Int) = (m : Int) := by omega
  have hms : m ≤ s.size := by omega
  have htx : s.extract 0 m = txt (s.data.toList.take part.toNat) := by
    rw [extract_txt, List.drop_zero, Nat.sub_zero, hm]
    congr 1
    rw [← size_list s, List.take_eq_take_iff]
    omega
  have hi1 : (0 : Int) ≤ (m : Int) := by omega
  have hi2 : (m : Int) ≤ (s.size : Int) := by omega
  have HX := Lib.hid htx
  clear htx hm
  go_enter Tryz.func43, Tryz.ntmps43
  go_wp2
  have hh : ((w.alloc (.cells #[.int .i64 k, .string p, .string q, .string (s.extract 0 m), .int .i64 t] 96)).alloc (.cells #[.int .i64 k, .string p, .string q, .string (s.extract 0 m), .int .i64 t] 96)).heap[w.heap.size + 1]? = some (.cells #[.int .i64 k, .string p, .string q, .string (s.extract 0 m), .int .i64 t] 96 (0, 0)) := by
    have := World.alloc_heap_new (w.alloc (.cells #[.int .i64 k, .string p, .string q, .string (s.extract 0 m), .int .i64 t] 96)) (.cells #[.int .i64 k, .string p, .string q, .string (s.extract 0 m), .int .i64 t] 96)
    rwa [World.size_alloc] at this
  have hb : Below w.heap.size w ((w.alloc (.cells #[.int .i64 k, .string p, .string q, .string (s.extract 0 m), .int .i64 t] 96)).alloc (.cells #[.int .i64 k, .string p, .string q, .string (s.extract 0 m), .int .i64 t] 96)) := ((Below.refl _ w).alloc (Nat.le_refl _) _).alloc (by simp) _
  generalize ((w.alloc (.cells #[.int .i64 k, .string p, .string q, .string (s.extract 0 m), .int .i64 t] 96)).alloc (.cells #[.int .i64 k, .string p, .string q, .string (s.extract 0 m), .int .i64 t] 96)) = W2 at hh hb ⊢
  have q0 : W2.cell? ⟨w.heap.size + 1, 0, none⟩ = some (.int .i64 k) := by rw [Lib.cell_of_heap hh]; rfl
  have q1 : W2.cell? ⟨w.heap.size + 1, 1, none⟩ = some (.string p) := by rw [Lib.cell_of_heap hh]; rfl
  have q2 : W2.cell? ⟨w.heap.size + 1, 2, none⟩ = some (.string q) := by rw [Lib.cell_of_heap hh]; rfl
  have q3 : W2.cell? ⟨w.heap.size + 1, 3, none⟩ = some (.string (s.extract 0 m)) := by rw [Lib.cell_of_heap hh]; rfl
  have q4 : W2.cell? ⟨w.heap.size + 1, 4, none⟩ = some (.int .i64 t) := by rw [Lib.cell_of_heap hh]; rfl
  rw [← HX.out]
  exact bodyPost_ret (v := .agg #[.int .i64 k, .string p, .string q, .string (s.extract 0 m), .int .i64 t]) (by simp [results, Tryz.results43, go_sem, q0, q1, q2, q3, q4]) rfl ⟨rfl, hb⟩

theorem Applied.tree {w w' : World} {X : Nat → Prop} {bt b : Nat} {room clock : Int} {sm : Option Nat} {pv : Value} {YN YS YP : Nat → Prop} {LN LS : FVs} {pend : List Ch} {c : Ch} (h : TreeP w X bt room clock (some b) sm pv YN YS YP LN LS pend) (hA : Applied w YN b (strip LN) c w') :
    ∃ X' YN' LN', TreeP w' X' bt room clock (some b) sm pv YN' YS YP LN' LS pend ∧ strip LN' = after (strip LN) c ∧ Turned X w w' ∧ ∀ n, X' n → X n ∨ w.heap.size ≤ n := by
  obtain ⟨Y', L', h1, h2, h3, h4⟩ := hA
  have hXl := h.lt
  have hs := h3.size
  have hd : ∀ n, YN n → ¬ YP n ∧ ¬ YS n ∧ n ≠ bt := fun n hn => ⟨h.np n hn, h.ns n hn, fun e => h.tn (e ▸ hn)⟩
  refine ⟨fun n => X n ∨ (w.heap.size ≤ n ∧ n < w'.heap.size), Y', L', ⟨h3.cells h.cells h.tn, h1, h.last.kept h3 (fun n hn hx => (hd n hx).2.1 hn), h.row.kept h3 (fun n hn hx => (hd n hx).1 hn), .inl h.xt, fun n hn => ?_, fun n hn => .inl (h.xs n hn), fun n hn => .inl (h.xp n hn), fun hn => ?_, h.ts, h.tp, fun n hn hx => ?_, fun n hn hx => ?_, h.sp, fun n hn => ?_⟩, h2, h3.wider h.xn, fun n hn => hn.elim .inl (fun h => .inr h.1)⟩
  · rcases h4 n hn with h' | h'
    · exact .inl (h.xn n h')
    · exact .inr ⟨h', h1.lt n hn⟩
  · rcases h4 bt hn with h' | h'
    · exact h.tn h'
    · have := hXl bt h.xt; omega
  · rcases h4 n hn with h' | h'
    · exact h.ns n h' hx
    · have := hXl n (h.xs n hx); omega
  · rcases h4 n hn with h' | h'
    · exact h.np n h' hx
    · have := hXl n (h.xp n hx); omega
  · rcases hn with h' | h'
    · have := hXl n h'; omega
    · exact h'.2

end Go.Proofs.YtchnbnmajagpjaaGreatDoor

namespace Go.Proofs.YtchnbnmajagpjaaGreatDoor
open Go.RowKit Go.Shelf Go.Maps

/-- The changes fit, one behind the other. -/
def Goes : Fs → List Ch → Prop
  | l, [] => l.length ≤ 200
  | l, c :: r => l.length ≤ 200 ∧ Fits l c ∧ Goes (after l c) r
def crashN (S : St) (many : Int) : Nat := (min (max many 0) (S.pend.length : Int)).toNat
def crashL (S : St) (many part : Int) : Fs :=
  match S.pend[crashN S many]? with
  | none => (S.pend.take (crashN S many)).foldl after S.last
  | some c => if 1 ≤ part ∧ c.kind ≤ 1 then after ((S.pend.take (crashN S many)).foldl after S.last) (tornC c part) else (S.pend.take (crashN S many)).foldl after S.last
def opC (S : St) (many part : Int) : St := (S.clock, crashL S many part, crashL S many part, [])

/-- How it stands in Crash: the tree with the files l; its blocks are below B. -/
def CrAt (w0 : World) (X : Nat → Prop) (bt : Nat) (room : Int) (S : St) (b : Nat) (sm : Option Nat) (pv : Value) (YS YP : Nat → Prop) (LS : FVs) (l : Fs) (B : Nat) (W : World) : Prop :=
  ∃ X' YN LN, TreeP W X' bt room S.clock (some b) sm pv YN YS YP LN LS S.pend ∧ strip LN = l ∧ Turned X w0 W ∧ (∀ n, X' n → X n ∨ w0.heap.size ≤ n) ∧ (∀ n, X' n → n < B) ∧ B ≤ W.heap.size
section
variable {w0 W W' : World} {X : Nat → Prop} {bt : Nat} {room : Int} {S : St} {b : Nat} {sm : Option Nat} {pv : Value} {YS YP : Nat → Prop} {LS : FVs} {l : Fs} {B : Nat}
theorem CrAt.below (h : CrAt w0 X bt room S b sm pv YS YP LS l B W) (hb : Below W.heap.size W W') : CrAt w0 X bt room S b sm pv YS YP LS l B W' := by
  obtain ⟨X', YN, LN, h1, h2, h3, h4, h5, h6⟩ := h
  exact ⟨X', YN, LN, h1.kept (turned_below hb) (fun _ _ => id), h2, h3.trans ((turned_below hb).wider (fun _ h => h.elim)), h4, h5, Nat.le_trans h6 hb.size⟩
theorem CrAt.fresh (h : CrAt w0 X bt room S b sm pv YS YP LS l B W) : CrAt w0 X bt room S b sm pv YS YP LS l W.heap.size W := by
  obtain ⟨X', YN, LN, h1, h2, h3, h4, h5, h6⟩ := h
  exact ⟨X', YN, LN, h1, h2, h3, h4, h1.lt, Nat.le_refl _⟩
theorem CrAt.cell (h : CrAt w0 X bt room S b sm pv YS YP LS l B W) : W.cell? ⟨bt, 2, none⟩ = some (.map (some b)) := by
  obtain ⟨X', YN, LN, h1, _⟩ := h
  exact h1.cells.cell.2.2.1
theorem CrAt.apply (h : CrAt w0 X bt room S b sm pv YS YP LS l B W) (c : Ch) (hf : Fits l c) (hl : l.length ≤ 200) (xb : Nat) (cs : Array Value) (T : TypeId) (fz : Nat × Nat) (hx : W.heap[xb]? = some (.cells cs T fz)) (hB : B ≤ xb) :
    Calls Tryz.prog 41 #[.map (some b), .agg (chCells c).toArray] W fun r W' => r = .returned (.tuple #[]) ∧ CrAt w0 X bt room S b sm pv YS YP LS (after l c) W'.heap.size W' ∧ W'.heap[xb]? = some (.cells cs T fz) := by
  obtain ⟨X', YN, LN, h1, rfl, h3, h4, h5, h6⟩ := h
  refine (apply_any b YN LN c W h1.now (by rw [strip_length] at hl; omega) hf).mono ?_
  rintro r W' ⟨rfl, hA⟩
  have hTY : Turned YN W W' := by obtain ⟨_, _, _, _, q, _⟩ := hA; exact q
  obtain ⟨X2, YN2, LN2, k1, k2, k3, k4⟩ := hA.tree h1
  refine ⟨rfl, ⟨X2, YN2, LN2, k1, k2, h3.andThen k3 h4, fun n hn => ?_, k1.lt, Nat.le_refl _⟩, hTY.cells hx (fun hn => by have := h5 xb (h1.xn xb hn); omega)⟩
  rcases k4 n hn with h | h
  · exact h4 n h
  · have := h3.size; exact .inr (by omega)
theorem CrAt.applyN (h : CrAt w0 X bt room S b sm pv YS YP LS l B W) (c : Ch) (hf : Fits l c) (hl : l.length ≤ 200) :
    Calls Tryz.prog 41 #[.map (some b), .agg (chCells c).toArray] W fun r W' => r = .returned (.tuple #[]) ∧ CrAt w0 X bt room S b sm pv YS YP LS (after l c) W'.heap.size W' := by
  obtain ⟨X', YN, LN, h1, rfl, h3, h4, h5, h6⟩ := h
  refine (apply_any b YN LN c W h1.now (by rw [strip_length] at hl; omega) hf).mono ?_
  rintro r W' ⟨rfl, hA⟩
  obtain ⟨X2, YN2, LN2, k1, k2, k3, k4⟩ := hA.tree h1
  refine ⟨rfl, X2, YN2, LN2, k1, k2, h3.andThen k3 h4, fun n hn => ?_, k1.lt, Nat.le_refl _⟩
  rcases k4 n hn with h | h
  · exact h4 n h
  · have := h3.size; exact .inr (by omega)
theorem CrAt.step (h : CrAt w0 X bt room S b sm pv YS YP LS l B W) : StepS w0 X bt room (S.clock, l, strip LS, S.pend) W := by
  obtain ⟨X', YN, LN, h1, rfl, h3, h4, _⟩ := h
  exact ⟨X', ⟨_, _, _, _, _, _, _, _, h1, rfl, rfl⟩, h3, h4⟩
end

theorem fold_take {l : Fs} {cs : List Ch} {k : Nat} (hk : k < cs.length) : (cs.take (k + 1)).foldl after l = after ((cs.take k).foldl after l) cs[k] := by
  rw [List.take_succ_eq_append_getElem hk, List.foldl_append]; rfl
theorem goes_at : ∀ {cs : List Ch} {l : Fs}, Goes l cs → ∀ k (hk : k < cs.length), Fits ((cs.take k).foldl after l) cs[k]
  | [], _, _, k, hk => by simp at hk
  | _ :: _, _, h, 0, _ => h.2.1
  | _ :: _, _, h, k + 1, hk => goes_at h.2.2 k (by simpa using hk)
theorem goes_len : ∀ {cs : List Ch} {l : Fs}, Goes l cs → ∀ k, ((cs.take k).foldl after l).length ≤ 200
  | [], l, h, k => by
    have h' : l.length ≤ 200 := h
    simpa using h'
  | _ :: _, _, h, 0 => h.1
  | _ :: _, _, h, k + 1 => goes_len h.2.2 k
theorem torn_fits {l : Fs} {c : Ch} (h : Fits l c) (hk : c.kind ≤ 1) (part : Int) : Fits l (tornC c part) := by
  obtain ⟨h1, h2, h3, h4, h5⟩ := h
  have hle := List.length_take_le part.toNat c.arg
  have hle2 : (c.arg.take part.toNat).length ≤ c.arg.length := by rw [List.length_take]; omega
  refine ⟨h1, h2, Nat.le_trans hle2 h3, fun hk1 => ?_, fun h3k => ?_⟩
  · have := h4 hk1
    show (textOf l c.path).length + (c.arg.take part.toNat).length ≤ _
    omega
  · have : c.kind = 3 := h3k
    omega

theorem crash_none {S : St} {many part : Int} {m : Nat} (hN : crashN S many = m) (h : S.pend[m]? = none ∨ (∃ c, S.pend[m]? = some c ∧ ¬ (1 ≤ part ∧ c.kind ≤ 1))) : crashL S many part = (S.pend.take m).foldl after S.last := by
  unfold crashL
  rw [hN]
  rcases h with h | ⟨c, h, hn⟩
  · rw [h]
  · rw [h]; simp only [if_neg hn]
theorem crash_torn {S : St} {many part : Int} {m : Nat} {c : Ch} (hN : crashN S many = m) (h : S.pend[m]? = some c) (h1 : 1 ≤ part) (h2 : c.kind ≤ 1) : crashL S many part = after ((S.pend.take m).foldl after S.last) (tornC c part) := by
  unfold crashL
  rw [hN, h]
  simp only [if_pos (And.intro h1 h2)]
theorem torn_cells {c : Ch} {part : Int} {kd : Nat} {p q s : ByteArray} {t : Int} (hch : chCells c = [.int .i64 kd, .string p, .string q, .string s, .int .i64 t]) (hk : c.kind ≤ 1) : chCells (tornC c part) = [.int .i64 kd, .string p, .string q, .string (txt (s.data.toList.take part.toNat)), .int .i64 t] := by
  obtain ⟨k, pp, a, tt⟩ := c
  have hk' : k ≤ 1 := hk
  have a3 : toOf (k, pp, a, tt) = [] := if_neg (show ¬ k = 3 by omega)
  have a4 : txtOf (k, pp, a, tt) = a := if_pos hk'
  have e3 : toOf (tornC (k, pp, a, tt) part) = [] := if_neg (show ¬ k = 3 by omega)
  have e4 : txtOf (tornC (k, pp, a, tt) part) = a.take part.toNat := if_pos hk'
  unfold chCells at hch ⊢
  rw [a3, a4] at hch
  rw [e3, e4]
  simp only [Ch.kind, Ch.path, Ch.time, List.cons.injEq, Value.int.injEq, Value.string.injEq, true_and, and_true] at hch
  obtain ⟨h1, h2, h3, h4, h5⟩ := hch
  show [Value.int .i64 (k : Nat), .string (txt pp), .string (txt []), .string (txt (a.take part.toNat)), .int .i64 tt] = _
  rw [h1, h2, h3, h5, ← h4, txt_data]
theorem after0 (l : Fs) (p a : BS) (t : Int) : after l (0, p, a, t) = put (p, a, t) l := rfl
theorem after1 (l : Fs) (p a : BS) (t : Int) : after l (1, p, a, t) = put (p, textOf l p ++ a, t) l := rfl
theorem after2 (l : Fs) (p a : BS) (t : Int) : after l (2, p, a, t) = drp p l := rfl
theorem put_len2 (l : Fs) (p : BS) (u v : FD) : (put (p, u) l).length = (put (p, v) l).length := by unfold put; rw [ins_length, ins_length]
theorem torn_len {l : Fs} {c : Ch} (hk : c.kind ≤ 1) (part : Int) : (after l (tornC c part)).length = (after l c).length := by
  obtain ⟨k, pp, a, tt⟩ := c
  have hk' : k ≤ 1 := hk
  rcases (show k = 0 ∨ k = 1 by omega) with rfl | rfl
  · show (after l (0, pp, a.take part.toNat, tt)).length = _
    rw [after0, after0]; exact put_len2 _ _ _ _
  · show (after l (1, pp, a.take part.toNat, tt)).length = _
    rw [after1, after1]; exact put_len2 _ _ _ _
/-- What is synced at last. -/
theorem CrAt.sync {w0 W : World} {X : Nat → Prop} {bt : Nat} {room : Int} {S : St} {b : Nat} {sm : Option Nat} {pv : Value} {YS YP : Nat → Prop} {LS : FVs} {l : Fs} {B : Nat} (h : CrAt w0 X bt room S b sm pv YS YP LS l B W) (hl : l.length ≤ 200) :
    Calls Tryz.prog 26 #[.pointer (some ⟨bt, 0, none⟩)] W fun r W' => r = .returned (.tuple #[]) ∧ StepS w0 X bt room (S.clock, l, l, []) W' := by
  obtain ⟨X', h1, h2, h3⟩ := h.step
  refine (sync_tree bt X' room (S.clock, l, strip LS, S.pend) W h1 hl).mono ?_
  rintro r W' ⟨rfl, X2, k1, k2, k3⟩
  refine ⟨rfl, X2, k1, h2.andThen k2 h3, fun n hn => ?_⟩
  rcases k3 n hn with h | h
  · exact h3 n h
  · have := h2.size; exact .inr (by omega)

/-- What was synced, copied, and taken for what is there. -/
theorem crash_start {w w1 : World} {X : Nat → Prop} {bt : Nat} {room : Int} {S : St} {nm sm : Option Nat} {pv : Value} {YN YS YP : Nat → Prop} {LN LS : FVs} (hp : TreeP w X bt room S.clock nm sm pv YN YS YP LN LS S.pend) (hM : IsM w1 w.heap.size (bare LS)) (hb : Below w.heap.size w w1) :
    CrAt w X bt room S w.heap.size sm pv YS YP LS (strip LS) (w1.setCell ⟨bt, 2, none⟩ (.map (some w.heap.size))).heap.size (w1.setCell ⟨bt, 2, none⟩ (.map (some w.heap.size))) := by
  have hXl := hp.lt
  have hlt := hp.cells.lt
  have hml := hM.lt
  have hc1 := hp.cells.below hb hlt
  obtain ⟨W, hW⟩ : ∃ W, W = w1.setCell ⟨bt, 2, none⟩ (.map (some w.heap.size)) := ⟨_, rfl⟩
  have hT : Turned (fun n => n = bt) w1 W := by rw [hW]; exact Turned.setCell (X := fun n => n = bt) w1 ⟨bt, 2, none⟩ _ rfl
  have hs : W.heap.size = w1.heap.size := by rw [hW]; simp
  have hcW : TreeC W bt room S.clock (some w.heap.size) sm pv := by
    rw [hW]
    unfold TreeC at hc1
    simp [TreeC, World.setCell, Array.getElem?_modify, hc1]
  have hb' := turned_below hb
  rw [← hW]
  refine ⟨fun n => X n ∨ n = w.heap.size, fun n => n = w.heap.size, bare LS, ⟨hcW, (NowR.bare hM).kept hT (fun n (hn : n = w.heap.size) (hx : n = bt) => by omega), (hp.last.kept hb' (fun _ _ => id)).kept hT (fun n hn (hx : n = bt) => hp.ts (hx ▸ hn)), (hp.row.kept hb' (fun _ _ => id)).kept hT (fun n hn (hx : n = bt) => hp.tp (hx ▸ hn)),
    .inl hp.xt, fun n hn => .inr hn, fun n hn => .inl (hp.xs n hn), fun n hn => .inl (hp.xp n hn), fun hn => by omega, hp.ts, hp.tp, fun n (hn : n = w.heap.size) hx => by have := hXl n (hp.xs n hx); omega, fun n (hn : n = w.heap.size) hx => by have := hXl n (hp.xp n hx); omega, hp.sp, fun n hn => ?_⟩, strip_bare LS,
    (hb'.wider (fun _ h => h.elim)).andThen hT (fun n hn => .inl (by rw [hn]; exact hp.xt)), fun n hn => hn.elim .inl (fun h => .inr (by omega)), fun n hn => ?_, Nat.le_refl _⟩
  · rcases hn with h | h
    · have := hXl n h; have := hb.size; omega
    · omega
  · rcases hn with h | h
    · have := hXl n h; have := hb.size; omega
    · omega

set_option maxRecDepth 100000 in
set_option maxHeartbeats 4000000 in
theorem crash_some (bt : Nat) (X : Nat → Prop) (g c n : Nat) (many part : Int) (room : Int) (S : St) (nm sm : Option Nat) (YN YS YP : Nat → Prop) (LN LS : FVs) (w : World) (hp : TreeP w X bt room S.clock nm sm (.slice (some ⟨g, 0, none⟩) n c) YN YS YP LN LS S.pend) (hnl : n = S.pend.length) (hlS : LS.length ≤ 200) (hg : Goes (strip LS) S.pend)
    (hnc : n ≤ c) (hcm : c ≤ maxLen) (m : Nat) (hmc : m < c) (hmin : min (max many 0) (n : Int) = (m : Int)) (hp2 : part < 9223372036854775808) :
    Calls Tryz.prog 17 #[.pointer (some ⟨bt, 0, none⟩), .int .i64 many, .int .i64 part] w fun r w' => r = .returned (.tuple #[]) ∧ StepS w X bt room (opC (S.clock, S.now, strip LS, S.pend) many part) w' := by
  have hmn : m ≤ n := by omega
  have hi1 : (0 : Int) ≤ (m : Int) := by omega
  have hi2 : (m : Int) ≤ (n : Int) := by omega
  have hi3 : (n : Int) ≤ (c : Int) := by omega
  have hi4 : (m : Int) ≤ (c : Int) := by omega
  have hne1 : m ≠ c := by omega
  have hne2 : c ≠ m := by omega
  have hne3 : (m : Int) ≠ (c : Int) := by omega
  have hne4 : (c : Int) ≠ (m : Int) := by omega
  unfold maxLen at hcm
  obtain ⟨c0, c1, c2, c3, c4⟩ := hp.cells.cell
  have c4d : w.drew.cell? ⟨bt, 4, none⟩ = some (.slice (some ⟨g, 0, none⟩) n c) := c4
  have mixed := lays169.mixed
  have hlt := hp.cells.lt
  have HC : Hid (Calls Tryz.prog 40 #[.map sm] w.drew fun e w' => e = .returned (.map (some w.heap.size)) ∧ TreeC w' bt room S.clock nm sm (.slice (some ⟨g, 0, none⟩) n c) ∧ CrAt w X bt room S w.heap.size sm (.slice (some ⟨g, 0, none⟩) n c) YS YP LS (strip LS) (w'.setCell ⟨bt, 2, none⟩ (.map (some w.heap.size))).heap.size (w'.setCell ⟨bt, 2, none⟩ (.map (some w.heap.size)))) := by
    have hbd : Below w.heap.size w w.drew := below_drew (Below.refl _ w)
    refine (clone_any sm LS w.drew (hp.last.map.below hbd (Nat.le_refl _)) (by omega)).mono (fun e w' hr => ⟨hr.1, hp.cells.below (hbd.trans hr.2.2) hlt, crash_start hp hr.2.1 (hbd.trans hr.2.2)⟩)
  have HG : Hid (Goes (strip LS) S.pend) := hg
  have HF : Hid (∀ l B W, CrAt w X bt room S w.heap.size sm (.slice (some ⟨g, 0, none⟩) n c) YS YP LS l B W → l.length ≤ 200 → Calls Tryz.prog 26 #[.pointer (some ⟨bt, 0, none⟩)] W fun r W' => r = .returned (.tuple #[]) ∧ StepS w X bt room (S.clock, l, l, []) W') := fun l B W h hl => h.sync hl
  have HA : Hid (∀ l B W ch xb cs T fz, CrAt w X bt room S w.heap.size sm (.slice (some ⟨g, 0, none⟩) n c) YS YP LS l B W → Fits l ch → l.length ≤ 200 → W.heap[xb]? = some (.cells cs T fz) → B ≤ xb → Calls Tryz.prog 41 #[.map (some w.heap.size), .agg (chCells ch).toArray] W fun r W' => r = .returned (.tuple #[]) ∧ CrAt w X bt room S w.heap.size sm (.slice (some ⟨g, 0, none⟩) n c) YS YP LS (after l ch) W'.heap.size W' ∧ W'.heap[xb]? = some (.cells cs T fz)) :=
    fun l B W ch xb cs T fz h hf hl hx hB => h.apply ch hf hl xb cs T fz hx hB
  have HA2 : Hid (∀ l B W ch, CrAt w X bt room S w.heap.size sm (.slice (some ⟨g, 0, none⟩) n c) YS YP LS l B W → Fits l ch → l.length ≤ 200 → Calls Tryz.prog 41 #[.map (some w.heap.size), .agg (chCells ch).toArray] W fun r W' => r = .returned (.tuple #[]) ∧ CrAt w X bt room S w.heap.size sm (.slice (some ⟨g, 0, none⟩) n c) YS YP LS (after l ch) W'.heap.size W') := fun l B W ch h hf hl => h.applyN ch hf hl
  have hN : crashN (S.clock, S.now, strip LS, S.pend) many = m := by
    unfold crashN
    show (min (max many 0) (S.pend.length : Int)).toNat = m
    rw [← hnl, hmin]; rfl
  have HN := Lib.hid hN
  clear hN
  have hrow : ∀ l B W, CrAt w X bt room S w.heap.size sm (.slice (some ⟨g, 0, none⟩) n c) YS YP LS l B W → ∀ i (hi : i < S.pend.length) j, j < 5 → W.cell? ⟨g, i * 5 + j, none⟩ = (chCells S.pend[i])[j]? := by
    intro l B W h i hi j hj
    obtain ⟨X', YN', LN', h1, _⟩ := h
    obtain ⟨o, c', hv, _, _, _, hcs⟩ := h1.row.shape (fun _ => rfl)
    obtain ⟨g', hg', hc⟩ := hcs i S.pend[i] (List.getElem?_eq_getElem hi)
    rw [← hnl] at hv
    cases hv
    cases hg'
    exact hc j hj
  have HR := Lib.hid hrow
  have HNL := Lib.hid hnl
  clear hp hg hrow hnl
  go_enter Tryz.func17, Tryz.ntmps17
  go_wp2
  go_region_held3 (fun w' => w'.cell? ⟨bt, 4, none⟩ = some (.slice (some ⟨g, 0, none⟩) n c)) (first | assumption) (first | fail)
  go_wp2_with (go_at_call 40; refine (HC.out).mono ?_; rintro e w1 ⟨rfl, hC1, hS1⟩; have d2 := hC1.cell.2.2.1; have f2 := hC1.frozen 2; have HS1 := Lib.hid hS1; clear hS1)
  have hz0 := HS1.out
  clear HC c0 c1 c2 c3 c4 c4d hC1 d2 f2 HS1
  generalize w1.setCell ⟨bt, 2, none⟩ (.map (some w.heap.size)) = W2 at hz0 ⊢
  go_loopw [40] (fun i wr => ∃ k : Nat, k ≤ m ∧ i = .int .i64 k ∧ CrAt w X bt room S w.heap.size sm (.slice (some ⟨g, 0, none⟩) n c) YS YP LS ((S.pend.take k).foldl after (strip LS)) wr.heap.size wr) (fun i _ => m - (intOf i).toNat)
  case atStart => exact ⟨0, Nat.zero_le _, rfl, hz0⟩
  case round =>
    obtain ⟨k, hk, rfl, hcr⟩ := hrel
    by_cases hlt2 : k < m
    · have hkl : k < S.pend.length := by have := HNL.out; omega
      obtain ⟨kd, p, q, s, t, hch⟩ : ∃ (kd : Nat) (p q s : ByteArray) (t : Int), chCells S.pend[k] = [.int .i64 kd, .string p, .string q, .string s, .int .i64 t] := ⟨_, _, _, _, _, rfl⟩
      have hcs : ∀ j, j < 5 → wr.cell? ⟨g, k * 5 + j, none⟩ = ([.int .i64 kd, .string p, .string q, .string s, .int .i64 t] : List Value)[j]? := fun j hj => by rw [HR.out _ _ wr hcr k hkl j hj, hch]
      have e0 : wr.cell? ⟨g, k * 5, none⟩ = some (.int .i64 kd) := hcs 0 (by omega)
      have e1 : wr.cell? ⟨g, k * 5 + 1, none⟩ = some (.string p) := hcs 1 (by omega)
      have e2 : wr.cell? ⟨g, k * 5 + 2, none⟩ = some (.string q) := hcs 2 (by omega)
      have e3 : wr.cell? ⟨g, k * 5 + 3, none⟩ = some (.string s) := hcs 3 (by omega)
      have e4 : wr.cell? ⟨g, k * 5 + 4, none⟩ = some (.int .i64 t) := hcs 4 (by omega)
      have x1 : (wr.alloc (.cells #[.int .i64 kd, .string p, .string q, .string s, .int .i64 t] 96)).drew.heap[wr.heap.size]? = some (.cells #[.int .i64 kd, .string p, .string q, .string s, .int .i64 t] 96 (0, 0)) := World.alloc_heap_new wr _
      have hcr1 := hcr.below (below_drew ((Below.refl wr.heap.size wr).alloc (Nat.le_refl _) (.cells #[.int .i64 kd, .string p, .string q, .string s, .int .i64 t] 96)))
      have hAk := HA.out _ _ _ S.pend[k] wr.heap.size _ _ _ hcr1 (goes_at HG.out k hkl) (goes_len HG.out k) x1 (Nat.le_refl _)
      rw [hch, ← fold_take hkl] at hAk
      have HAk := Lib.hid hAk
      have b2 := hcr1.cell
      have g0 : (wr.alloc (.cells #[.int .i64 kd, .string p, .string q, .string s, .int .i64 t] 96)).drew.cell? ⟨wr.heap.size, 0, none⟩ = some (.int .i64 kd) := by rw [Lib.cell_of_heap x1]; rfl
      have g1 : (wr.alloc (.cells #[.int .i64 kd, .string p, .string q, .string s, .int .i64 t] 96)).drew.cell? ⟨wr.heap.size, 1, none⟩ = some (.string p) := by rw [Lib.cell_of_heap x1]; rfl
      have g2 : (wr.alloc (.cells #[.int .i64 kd, .string p, .string q, .string s, .int .i64 t] 96)).drew.cell? ⟨wr.heap.size, 2, none⟩ = some (.string q) := by rw [Lib.cell_of_heap x1]; rfl
      have g3 : (wr.alloc (.cells #[.int .i64 kd, .string p, .string q, .string s, .int .i64 t] 96)).drew.cell? ⟨wr.heap.size, 3, none⟩ = some (.string s) := by rw [Lib.cell_of_heap x1]; rfl
      have g4 : (wr.alloc (.cells #[.int .i64 kd, .string p, .string q, .string s, .int .i64 t] 96)).drew.cell? ⟨wr.heap.size, 4, none⟩ = some (.int .i64 t) := by rw [Lib.cell_of_heap x1]; rfl
      have hi5 : (k : Int) < (m : Int) := by omega
      have hi6 : (0 : Int) ≤ (k : Int) := by omega
      clear hAk hcs hch hcr hcr1 HA HF HR
      go_wp2
      go_region_held3 (fun w' => w'.cell? ⟨bt, 2, none⟩ = some (.map (some w.heap.size)) ∧ w'.cell? ⟨wr.heap.size, 0, none⟩ = some (.int .i64 kd) ∧ w'.cell? ⟨wr.heap.size, 1, none⟩ = some (.string p) ∧ w'.cell? ⟨wr.heap.size, 2, none⟩ = some (.string q) ∧ w'.cell? ⟨wr.heap.size, 3, none⟩ = some (.string s) ∧ w'.cell? ⟨wr.heap.size, 4, none⟩ = some (.int .i64 t))
        (first | exact ⟨by assumption, by assumption, by assumption, by assumption, by assumption, by assumption⟩)
        (first | (go_at_call 41; refine (HAk.out).mono ?_; rintro r w3 ⟨rfl, hcr3, hx3⟩; have b3 := hcr3.cell; have j0 : w3.cell? ⟨wr.heap.size, 0, none⟩ = some (.int .i64 kd) := (by rw [Lib.cell_of_heap hx3]; rfl); have j1 : w3.cell? ⟨wr.heap.size, 1, none⟩ = some (.string p) := (by rw [Lib.cell_of_heap hx3]; rfl); have j2 : w3.cell? ⟨wr.heap.size, 2, none⟩ = some (.string q) := (by rw [Lib.cell_of_heap hx3]; rfl); have j3 : w3.cell? ⟨wr.heap.size, 3, none⟩ = some (.string s) := (by rw [Lib.cell_of_heap hx3]; rfl); have j4 : w3.cell? ⟨wr.heap.size, 4, none⟩ = some (.int .i64 t) := (by rw [Lib.cell_of_heap hx3]; rfl)))
      go_wp2_with fail
      go_roundw
      case rel => exact ⟨k + 1, hlt2, by go_num, hcr3⟩
      case measure => simp [intOf]; omega
    · have hkm : k = m := by omega
      rw [hkm] at hcr
      have hll := goes_len HG.out m
      by_cases hmn2 : m < n
      · have hml : m < S.pend.length := by have := HNL.out; omega
        obtain ⟨kd, p, q, s, t, hch⟩ : ∃ (kd : Nat) (p q s : ByteArray) (t : Int), chCells S.pend[m] = [.int .i64 kd, .string p, .string q, .string s, .int .i64 t] := ⟨_, _, _, _, _, rfl⟩
        have hget : S.pend[m]? = some S.pend[m] := List.getElem?_eq_getElem hml
        have hfit := goes_at HG.out m hml
        have hkd : S.pend[m].kind = kd := by
          have := congrArg (fun l => l[0]?) hch
          simp only [chCells, List.getElem?_cons_zero, Option.some.injEq, Value.int.injEq, true_and] at this
          omega
        have HS : Hid (∀ l B W, CrAt w X bt room S w.heap.size sm (.slice (some ⟨g, 0, none⟩) n c) YS YP LS l B W → W.cell? ⟨bt, 2, none⟩ = some (.map (some w.heap.size)) ∧ W.cell? ⟨g, m * 5, none⟩ = some (.int .i64 kd) ∧ W.cell? ⟨g, m * 5 + 1, none⟩ = some (.string p) ∧ W.cell? ⟨g, m * 5 + 2, none⟩ = some (.string q) ∧ W.cell? ⟨g, m * 5 + 3, none⟩ = some (.string s) ∧ W.cell? ⟨g, m * 5 + 4, none⟩ = some (.int .i64 t)) := by
          intro l B W h
          have hcs : ∀ j, j < 5 → W.cell? ⟨g, m * 5 + j, none⟩ = ([.int .i64 kd, .string p, .string q, .string s, .int .i64 t] : List Value)[j]? := fun j hj => by rw [HR.out _ _ W h m hml j hj, hch]
          exact ⟨h.cell, hcs 0 (by omega), hcs 1 (by omega), hcs 2 (by omega), hcs 3 (by omega), hcs 4 (by omega)⟩
        have HM : Hid (∀ W l, CrAt w X bt room S w.heap.size sm (.slice (some ⟨g, 0, none⟩) n c) YS YP LS l W.heap.size W → Calls Tryz.prog 42 #[.agg #[.int .i64 kd, .string p, .string q, .string s, .int .i64 t]] W fun e w' => e = .returned (.bool (decide (kd ≤ 1))) ∧ CrAt w X bt room S w.heap.size sm (.slice (some ⟨g, 0, none⟩) n c) YS YP LS l w'.heap.size w') := by
          intro W l h
          exact (mayTear_any kd p q s t (by rw [← hkd]; exact hfit.1) W).mono (fun e w' hr => ⟨hr.1, (h.below hr.2).fresh⟩)
        obtain ⟨_, e0, e1, e2, e3, e4⟩ := HS.out _ _ wr hcr
        have hlen0 : (0 : Int) < ((n - m : Nat) : Int) := by omega
        have hlen1 : n - m ≠ 0 := by omega
        have hlen2 : (0 : Int) < (n : Int) - (m : Int) := by omega
        have hlen3 : 0 < n - m := by omega
        have hlen4 : m < n := hmn2
        by_cases hpart : 1 ≤ part
        · by_cases hk1 : kd ≤ 1
          · have hHM := HM.out wr _ hcr
            rw [decide_eq_true hk1] at hHM
            have HM2 := Lib.hid hHM
            have hfin := crash_torn (part := part) HN.out hget hpart (by rw [hkd]; exact hk1)
            have hsz : s.size < 4611686018427387904 := by
              have h3 : txt (txtOf S.pend[m]) = s := by
                have := congrArg (fun l => l[3]?) hch
                simpa [chCells] using this
              rw [← h3, txt_size]
              have h4 := hfit.2.2.1
              unfold txtOf
              rw [if_pos (by rw [hkd]; exact hk1)]
              omega
            have HT : Hid (∀ W l, CrAt w X bt room S w.heap.size sm (.slice (some ⟨g, 0, none⟩) n c) YS YP LS l W.heap.size W → Calls Tryz.prog 43 #[.agg #[.int .i64 kd, .string p, .string q, .string s, .int .i64 t], .int .i64 part] W fun e w' => e = .returned (.agg #[.int .i64 kd, .string p, .string q, .string (txt (s.data.toList.take part.toNat)), .int .i64 t]) ∧ CrAt w X bt room S w.heap.size sm (.slice (some ⟨g, 0, none⟩) n c) YS YP LS l w'.heap.size w') := by
              intro W l h
              exact (torn_any kd p q s t part hpart hp2 hsz W).mono (fun e w' hr => ⟨hr.1, (h.below hr.2).fresh⟩)
            have hA3 : ∀ W B, CrAt w X bt room S w.heap.size sm (.slice (some ⟨g, 0, none⟩) n c) YS YP LS ((S.pend.take m).foldl after (strip LS)) B W → Calls Tryz.prog 41 #[.map (some w.heap.size), .agg #[.int .i64 kd, .string p, .string q, .string (txt (s.data.toList.take part.toNat)), .int .i64 t]] W fun r W' => r = .returned (.tuple #[]) ∧ CrAt w X bt room S w.heap.size sm (.slice (some ⟨g, 0, none⟩) n c) YS YP LS (crashL (S.clock, S.now, strip LS, S.pend) many part) W'.heap.size W' := by
              intro W B h
              have := HA2.out _ _ W (tornC S.pend[m] part) h (torn_fits hfit (by rw [hkd]; exact hk1) part) hll
              rw [torn_cells hch (by rw [hkd]; exact hk1)] at this
              rw [hfin]
              exact this
            have HA3 := Lib.hid hA3
            have hll2 : (crashL (S.clock, S.now, strip LS, S.pend) many part).length ≤ 200 := by
              rw [hfin, torn_len (by rw [hkd]; exact hk1)]
              have := goes_len HG.out (m + 1)
              rwa [fold_take hml] at this
            obtain ⟨lo, hlo⟩ : ∃ lo, lo = (S.pend.take m).foldl after (strip LS) := ⟨_, rfl⟩
            rw [← hlo] at hcr HA3 HM2
            clear hfit hget hch hkd HA HA2 HM HR HG HN hHM hA3 hfin hll
            go_wp2_with (go_at_call 42; refine (HM2.out).mono ?_; rintro e w4 ⟨rfl, hcr4⟩; have hcr4d : CrAt w X bt room S w.heap.size sm (.slice (some ⟨g, 0, none⟩) n c) YS YP LS lo w4.drew.heap.size w4.drew := (hcr4.below (below_drew (Below.refl _ _))).fresh; have hsd := HS.out _ _ _ hcr4d)
            go_region_held3 (fun w' => w'.cell? ⟨bt, 2, none⟩ = some (.map (some w.heap.size)) ∧ w'.cell? ⟨g, m * 5, none⟩ = some (.int .i64 kd) ∧ w'.cell? ⟨g, m * 5 + 1, none⟩ = some (.string p) ∧ w'.cell? ⟨g, m * 5 + 2, none⟩ = some (.string q) ∧ w'.cell? ⟨g, m * 5 + 3, none⟩ = some (.string s) ∧ w'.cell? ⟨g, m * 5 + 4, none⟩ = some (.int .i64 t))
              (first | exact HS.out _ _ _ (by assumption))
              (first
                | (go_at_call 43; refine (HT.out _ _ (by assumption)).mono ?_; rintro r w5 ⟨rfl, hcr5⟩)
                | (go_at_call 41; refine (HA3.out _ _ (by assumption)).mono ?_; rintro r w6 ⟨rfl, hcr6⟩))
            go_wp2_with (go_at_call 26; refine (HF.out _ _ _ (by assumption) (by assumption)).mono ?_; rintro e w9 ⟨rfl, hst⟩)
            go_end0
            exact ⟨rfl, hst⟩
          · have hHM := HM.out wr _ hcr
            rw [decide_eq_false hk1] at hHM
            have HM2 := Lib.hid hHM
            have HL2 := Lib.hid (crash_none (part := part) HN.out (.inr ⟨_, hget, fun h => hk1 (by rw [← hkd]; exact h.2)⟩))
            obtain ⟨lo, hlo⟩ : ∃ lo, lo = (S.pend.take m).foldl after (strip LS) := ⟨_, rfl⟩
            have HL3 : Hid (crashL (S.clock, S.now, strip LS, S.pend) many part = lo) := by show _ = _; rw [HL2.out, hlo]
            rw [← hlo] at hcr hll HM2
            clear hfit hget hch hkd HA HA2 HM HR HG HN hHM HL2 hlo HS
            go_wp2_with (first
              | (go_at_call 42; refine (HM2.out).mono ?_; rintro e w4 ⟨rfl, hcr4⟩)
              | (go_at_call 26; refine (HF.out _ _ _ (by assumption) (by assumption)).mono ?_; rintro e w9 ⟨rfl, hst⟩))
            go_end0
            exact ⟨rfl, by unfold opC; rw [HL3.out]; exact hst⟩
        · have HL2 := Lib.hid (crash_none (part := part) HN.out (.inr ⟨_, hget, fun h => hpart h.1⟩))
          obtain ⟨lo, hlo⟩ : ∃ lo, lo = (S.pend.take m).foldl after (strip LS) := ⟨_, rfl⟩
          have HL3 : Hid (crashL (S.clock, S.now, strip LS, S.pend) many part = lo) := by show _ = _; rw [HL2.out, hlo]
          rw [← hlo] at hcr hll
          clear hfit hget hch hkd HA HA2 HM HR HG HN HL2 hlo HS
          go_wp2_with (go_at_call 26; refine (HF.out _ _ _ (by assumption) (by assumption)).mono ?_; rintro e w9 ⟨rfl, hst⟩)
          go_end0
          exact ⟨rfl, by unfold opC; rw [HL3.out]; exact hst⟩
      · have hget : S.pend[m]? = none := List.getElem?_eq_none (by have := HNL.out; omega)
        have HL2 := Lib.hid (crash_none (part := part) HN.out (.inl hget))
        obtain ⟨lo, hlo⟩ : ∃ lo, lo = (S.pend.take m).foldl after (strip LS) := ⟨_, rfl⟩
        have HL3 : Hid (crashL (S.clock, S.now, strip LS, S.pend) many part = lo) := by show _ = _; rw [HL2.out, hlo]
        rw [← hlo] at hcr hll
        have hlen1 : n - m = 0 := by omega
        have hlen4 : ¬ m < n := hmn2
        clear hget HA HA2 HR HG HN HL2 hlo
        go_wp2_with (go_at_call 26; refine (HF.out _ _ _ (by assumption) (by assumption)).mono ?_; rintro e w9 ⟨rfl, hst⟩)
        go_end0
        exact ⟨rfl, by unfold opC; rw [HL3.out]; exact hst⟩

end Go.Proofs.YtchnbnmajagpjaaGreatDoor

namespace Go.Proofs.YtchnbnmajagpjaaGreatDoor
open Go.RowKit Go.Shelf Go.Maps

set_option maxRecDepth 100000 in
set_option maxHeartbeats 4000000 in
theorem crash_full (bt : Nat) (X : Nat → Prop) (g n : Nat) (many part : Int) (room : Int) (S : St) (nm sm : Option Nat) (YN YS YP : Nat → Prop) (LN LS : FVs) (w : World) (hp : TreeP w X bt room S.clock nm sm (.slice (some ⟨g, 0, none⟩) n n) YN YS YP LN LS S.pend) (hnl : n = S.pend.length) (hlS : LS.length ≤ 200) (hg : Goes (strip LS) S.pend)
    (hcm : n ≤ maxLen) (hmin : min (max many 0) (n : Int) = (n : Int)) (_hp2 : part < 9223372036854775808) :
    Calls Tryz.prog 17 #[.pointer (some ⟨bt, 0, none⟩), .int .i64 many, .int .i64 part] w fun r w' => r = .returned (.tuple #[]) ∧ StepS w X bt room (opC (S.clock, S.now, strip LS, S.pend) many part) w' := by
  have hi1 : (0 : Int) ≤ (n : Int) := by omega
  unfold maxLen at hcm
  obtain ⟨c0, c1, c2, c3, c4⟩ := hp.cells.cell
  have c4d : w.drew.cell? ⟨bt, 4, none⟩ = some (.slice (some ⟨g, 0, none⟩) n n) := c4
  have mixed := lays169.mixed
  have hlt := hp.cells.lt
  have HC : Hid (Calls Tryz.prog 40 #[.map sm] w.drew fun e w' => e = .returned (.map (some w.heap.size)) ∧ TreeC w' bt room S.clock nm sm (.slice (some ⟨g, 0, none⟩) n n) ∧ CrAt w X bt room S w.heap.size sm (.slice (some ⟨g, 0, none⟩) n n) YS YP LS (strip LS) (w'.setCell ⟨bt, 2, none⟩ (.map (some w.heap.size))).heap.size (w'.setCell ⟨bt, 2, none⟩ (.map (some w.heap.size)))) := by
    have hbd : Below w.heap.size w w.drew := below_drew (Below.refl _ w)
    refine (clone_any sm LS w.drew (hp.last.map.below hbd (Nat.le_refl _)) (by omega)).mono (fun e w' hr => ⟨hr.1, hp.cells.below (hbd.trans hr.2.2) hlt, crash_start hp hr.2.1 (hbd.trans hr.2.2)⟩)
  have HG : Hid (Goes (strip LS) S.pend) := hg
  have HF : Hid (∀ l B W, CrAt w X bt room S w.heap.size sm (.slice (some ⟨g, 0, none⟩) n n) YS YP LS l B W → l.length ≤ 200 → Calls Tryz.prog 26 #[.pointer (some ⟨bt, 0, none⟩)] W fun r W' => r = .returned (.tuple #[]) ∧ StepS w X bt room (S.clock, l, l, []) W') := fun l B W h hl => h.sync hl
  have HA : Hid (∀ l B W ch xb cs T fz, CrAt w X bt room S w.heap.size sm (.slice (some ⟨g, 0, none⟩) n n) YS YP LS l B W → Fits l ch → l.length ≤ 200 → W.heap[xb]? = some (.cells cs T fz) → B ≤ xb → Calls Tryz.prog 41 #[.map (some w.heap.size), .agg (chCells ch).toArray] W fun r W' => r = .returned (.tuple #[]) ∧ CrAt w X bt room S w.heap.size sm (.slice (some ⟨g, 0, none⟩) n n) YS YP LS (after l ch) W'.heap.size W' ∧ W'.heap[xb]? = some (.cells cs T fz)) :=
    fun l B W ch xb cs T fz h hf hl hx hB => h.apply ch hf hl xb cs T fz hx hB
  have HA2 : Hid (∀ l B W ch, CrAt w X bt room S w.heap.size sm (.slice (some ⟨g, 0, none⟩) n n) YS YP LS l B W → Fits l ch → l.length ≤ 200 → Calls Tryz.prog 41 #[.map (some w.heap.size), .agg (chCells ch).toArray] W fun r W' => r = .returned (.tuple #[]) ∧ CrAt w X bt room S w.heap.size sm (.slice (some ⟨g, 0, none⟩) n n) YS YP LS (after l ch) W'.heap.size W') := fun l B W ch h hf hl => h.applyN ch hf hl
  have hN : crashN (S.clock, S.now, strip LS, S.pend) many = n := by
    unfold crashN
    show (min (max many 0) (S.pend.length : Int)).toNat = n
    rw [← hnl, hmin]; rfl
  have HN := Lib.hid hN
  clear hN
  have hrow : ∀ l B W, CrAt w X bt room S w.heap.size sm (.slice (some ⟨g, 0, none⟩) n n) YS YP LS l B W → ∀ i (hi : i < S.pend.length) j, j < 5 → W.cell? ⟨g, i * 5 + j, none⟩ = (chCells S.pend[i])[j]? := by
    intro l B W h i hi j hj
    obtain ⟨X', YN', LN', h1, _⟩ := h
    obtain ⟨o, c', hv, _, _, _, hcs⟩ := h1.row.shape (fun _ => rfl)
    obtain ⟨g', hg', hc⟩ := hcs i S.pend[i] (List.getElem?_eq_getElem hi)
    rw [← hnl] at hv
    cases hv
    cases hg'
    exact hc j hj
  have HR := Lib.hid hrow
  have HNL := Lib.hid hnl
  clear hp hg hrow hnl
  go_enter Tryz.func17, Tryz.ntmps17
  go_wp2
  go_region_held3 (fun w' => w'.cell? ⟨bt, 4, none⟩ = some (.slice (some ⟨g, 0, none⟩) n n)) (first | assumption) (first | fail)
  go_wp2_with (go_at_call 40; refine (HC.out).mono ?_; rintro e w1 ⟨rfl, hC1, hS1⟩; have d2 := hC1.cell.2.2.1; have f2 := hC1.frozen 2; have HS1 := Lib.hid hS1; clear hS1)
  have hz0 := HS1.out
  clear HC c0 c1 c2 c3 c4 c4d hC1 d2 f2 HS1
  generalize w1.setCell ⟨bt, 2, none⟩ (.map (some w.heap.size)) = W2 at hz0 ⊢
  go_loopw [40] (fun i wr => ∃ k : Nat, k ≤ n ∧ i = .int .i64 k ∧ CrAt w X bt room S w.heap.size sm (.slice (some ⟨g, 0, none⟩) n n) YS YP LS ((S.pend.take k).foldl after (strip LS)) wr.heap.size wr) (fun i _ => n - (intOf i).toNat)
  case atStart => exact ⟨0, Nat.zero_le _, rfl, hz0⟩
  case round =>
    obtain ⟨k, hk, rfl, hcr⟩ := hrel
    by_cases hlt2 : k < n
    · have hkl : k < S.pend.length := by have := HNL.out; omega
      obtain ⟨kd, p, q, s, t, hch⟩ : ∃ (kd : Nat) (p q s : ByteArray) (t : Int), chCells S.pend[k] = [.int .i64 kd, .string p, .string q, .string s, .int .i64 t] := ⟨_, _, _, _, _, rfl⟩
      have hcs : ∀ j, j < 5 → wr.cell? ⟨g, k * 5 + j, none⟩ = ([.int .i64 kd, .string p, .string q, .string s, .int .i64 t] : List Value)[j]? := fun j hj => by rw [HR.out _ _ wr hcr k hkl j hj, hch]
      have e0 : wr.cell? ⟨g, k * 5, none⟩ = some (.int .i64 kd) := hcs 0 (by omega)
      have e1 : wr.cell? ⟨g, k * 5 + 1, none⟩ = some (.string p) := hcs 1 (by omega)
      have e2 : wr.cell? ⟨g, k * 5 + 2, none⟩ = some (.string q) := hcs 2 (by omega)
      have e3 : wr.cell? ⟨g, k * 5 + 3, none⟩ = some (.string s) := hcs 3 (by omega)
      have e4 : wr.cell? ⟨g, k * 5 + 4, none⟩ = some (.int .i64 t) := hcs 4 (by omega)
      have x1 : (wr.alloc (.cells #[.int .i64 kd, .string p, .string q, .string s, .int .i64 t] 96)).drew.heap[wr.heap.size]? = some (.cells #[.int .i64 kd, .string p, .string q, .string s, .int .i64 t] 96 (0, 0)) := World.alloc_heap_new wr _
      have hcr1 := hcr.below (below_drew ((Below.refl wr.heap.size wr).alloc (Nat.le_refl _) (.cells #[.int .i64 kd, .string p, .string q, .string s, .int .i64 t] 96)))
      have hAk := HA.out _ _ _ S.pend[k] wr.heap.size _ _ _ hcr1 (goes_at HG.out k hkl) (goes_len HG.out k) x1 (Nat.le_refl _)
      rw [hch, ← fold_take hkl] at hAk
      have HAk := Lib.hid hAk
      have b2 := hcr1.cell
      have g0 : (wr.alloc (.cells #[.int .i64 kd, .string p, .string q, .string s, .int .i64 t] 96)).drew.cell? ⟨wr.heap.size, 0, none⟩ = some (.int .i64 kd) := by rw [Lib.cell_of_heap x1]; rfl
      have g1 : (wr.alloc (.cells #[.int .i64 kd, .string p, .string q, .string s, .int .i64 t] 96)).drew.cell? ⟨wr.heap.size, 1, none⟩ = some (.string p) := by rw [Lib.cell_of_heap x1]; rfl
      have g2 : (wr.alloc (.cells #[.int .i64 kd, .string p, .string q, .string s, .int .i64 t] 96)).drew.cell? ⟨wr.heap.size, 2, none⟩ = some (.string q) := by rw [Lib.cell_of_heap x1]; rfl
      have g3 : (wr.alloc (.cells #[.int .i64 kd, .string p, .string q, .string s, .int .i64 t] 96)).drew.cell? ⟨wr.heap.size, 3, none⟩ = some (.string s) := by rw [Lib.cell_of_heap x1]; rfl
      have g4 : (wr.alloc (.cells #[.int .i64 kd, .string p, .string q, .string s, .int .i64 t] 96)).drew.cell? ⟨wr.heap.size, 4, none⟩ = some (.int .i64 t) := by rw [Lib.cell_of_heap x1]; rfl
      have hi5 : (k : Int) < (n : Int) := by omega
      have hi6 : (0 : Int) ≤ (k : Int) := by omega
      clear hAk hcs hch hcr hcr1 HA HF HR
      go_wp2
      go_region_held3 (fun w' => w'.cell? ⟨bt, 2, none⟩ = some (.map (some w.heap.size)) ∧ w'.cell? ⟨wr.heap.size, 0, none⟩ = some (.int .i64 kd) ∧ w'.cell? ⟨wr.heap.size, 1, none⟩ = some (.string p) ∧ w'.cell? ⟨wr.heap.size, 2, none⟩ = some (.string q) ∧ w'.cell? ⟨wr.heap.size, 3, none⟩ = some (.string s) ∧ w'.cell? ⟨wr.heap.size, 4, none⟩ = some (.int .i64 t))
        (first | exact ⟨by assumption, by assumption, by assumption, by assumption, by assumption, by assumption⟩)
        (first | (go_at_call 41; refine (HAk.out).mono ?_; rintro r w3 ⟨rfl, hcr3, hx3⟩; have b3 := hcr3.cell; have j0 : w3.cell? ⟨wr.heap.size, 0, none⟩ = some (.int .i64 kd) := (by rw [Lib.cell_of_heap hx3]; rfl); have j1 : w3.cell? ⟨wr.heap.size, 1, none⟩ = some (.string p) := (by rw [Lib.cell_of_heap hx3]; rfl); have j2 : w3.cell? ⟨wr.heap.size, 2, none⟩ = some (.string q) := (by rw [Lib.cell_of_heap hx3]; rfl); have j3 : w3.cell? ⟨wr.heap.size, 3, none⟩ = some (.string s) := (by rw [Lib.cell_of_heap hx3]; rfl); have j4 : w3.cell? ⟨wr.heap.size, 4, none⟩ = some (.int .i64 t) := (by rw [Lib.cell_of_heap hx3]; rfl)))
      go_wp2_with fail
      go_roundw
      case rel => exact ⟨k + 1, hlt2, by go_num, hcr3⟩
      case measure => simp [intOf]; omega
    · have hkm : k = n := by omega
      rw [hkm] at hcr
      have hll := goes_len HG.out n
      have hget : S.pend[n]? = none := List.getElem?_eq_none (by have := HNL.out; omega)
      have HL2 := Lib.hid (crash_none (part := part) HN.out (.inl hget))
      obtain ⟨lo, hlo⟩ : ∃ lo, lo = (S.pend.take n).foldl after (strip LS) := ⟨_, rfl⟩
      have HL3 : Hid (crashL (S.clock, S.now, strip LS, S.pend) many part = lo) := by show _ = _; rw [HL2.out, hlo]
      rw [← hlo] at hcr hll
      clear hget HA HA2 HR HG HN HL2 hlo
      go_wp2_with (go_at_call 26; refine (HF.out _ _ _ (by assumption) (by assumption)).mono ?_; rintro e w9 ⟨rfl, hst⟩)
      go_end0
      exact ⟨rfl, by unfold opC; rw [HL3.out]; exact hst⟩

set_option maxRecDepth 100000 in
set_option maxHeartbeats 4000000 in
theorem crash_nil (bt : Nat) (X : Nat → Prop) (many part : Int) (room : Int) (S : St) (nm sm : Option Nat) (YN YS YP : Nat → Prop) (LN LS : FVs) (w : World) (hp : TreeP w X bt room S.clock nm sm (.slice none 0 0) YN YS YP LN LS S.pend) (hnl : 0 = S.pend.length) (hlS : LS.length ≤ 200) (hg : Goes (strip LS) S.pend)
    (hmin : min (max many 0) 0 = (0 : Int)) (_hp2 : part < 9223372036854775808) :
    Calls Tryz.prog 17 #[.pointer (some ⟨bt, 0, none⟩), .int .i64 many, .int .i64 part] w fun r w' => r = .returned (.tuple #[]) ∧ StepS w X bt room (opC (S.clock, S.now, strip LS, S.pend) many part) w' := by
  obtain ⟨c0, c1, c2, c3, c4⟩ := hp.cells.cell
  have c4d : w.drew.cell? ⟨bt, 4, none⟩ = some (.slice none 0 0) := c4
  have mixed := lays169.mixed
  have hlt := hp.cells.lt
  have HC : Hid (Calls Tryz.prog 40 #[.map sm] w.drew fun e w' => e = .returned (.map (some w.heap.size)) ∧ TreeC w' bt room S.clock nm sm (.slice none 0 0) ∧ CrAt w X bt room S w.heap.size sm (.slice none 0 0) YS YP LS (strip LS) (w'.setCell ⟨bt, 2, none⟩ (.map (some w.heap.size))).heap.size (w'.setCell ⟨bt, 2, none⟩ (.map (some w.heap.size)))) := by
    have hbd : Below w.heap.size w w.drew := below_drew (Below.refl _ w)
    refine (clone_any sm LS w.drew (hp.last.map.below hbd (Nat.le_refl _)) (by omega)).mono (fun e w' hr => ⟨hr.1, hp.cells.below (hbd.trans hr.2.2) hlt, crash_start hp hr.2.1 (hbd.trans hr.2.2)⟩)
  have HG : Hid (Goes (strip LS) S.pend) := hg
  have HF : Hid (∀ l B W, CrAt w X bt room S w.heap.size sm (.slice none 0 0) YS YP LS l B W → l.length ≤ 200 → Calls Tryz.prog 26 #[.pointer (some ⟨bt, 0, none⟩)] W fun r W' => r = .returned (.tuple #[]) ∧ StepS w X bt room (S.clock, l, l, []) W') := fun l B W h hl => h.sync hl
  have HA : Hid (∀ l B W ch xb cs T fz, CrAt w X bt room S w.heap.size sm (.slice none 0 0) YS YP LS l B W → Fits l ch → l.length ≤ 200 → W.heap[xb]? = some (.cells cs T fz) → B ≤ xb → Calls Tryz.prog 41 #[.map (some w.heap.size), .agg (chCells ch).toArray] W fun r W' => r = .returned (.tuple #[]) ∧ CrAt w X bt room S w.heap.size sm (.slice none 0 0) YS YP LS (after l ch) W'.heap.size W' ∧ W'.heap[xb]? = some (.cells cs T fz)) :=
    fun l B W ch xb cs T fz h hf hl hx hB => h.apply ch hf hl xb cs T fz hx hB
  have HA2 : Hid (∀ l B W ch, CrAt w X bt room S w.heap.size sm (.slice none 0 0) YS YP LS l B W → Fits l ch → l.length ≤ 200 → Calls Tryz.prog 41 #[.map (some w.heap.size), .agg (chCells ch).toArray] W fun r W' => r = .returned (.tuple #[]) ∧ CrAt w X bt room S w.heap.size sm (.slice none 0 0) YS YP LS (after l ch) W'.heap.size W') := fun l B W ch h hf hl => h.applyN ch hf hl
  have hN : crashN (S.clock, S.now, strip LS, S.pend) many = 0 := by
    unfold crashN
    show (min (max many 0) (S.pend.length : Int)).toNat = 0
    rw [← hnl]; show (min (max many 0) 0).toNat = 0; rw [hmin]; rfl
  have HN := Lib.hid hN
  clear hN
  have HNL := Lib.hid hnl
  clear hp hg hnl
  go_enter Tryz.func17, Tryz.ntmps17
  go_wp2
  go_region_held3 (fun w' => w'.cell? ⟨bt, 4, none⟩ = some (.slice none 0 0)) (first | assumption) (first | fail)
  go_wp2_with (go_at_call 40; refine (HC.out).mono ?_; rintro e w1 ⟨rfl, hC1, hS1⟩; have d2 := hC1.cell.2.2.1; have f2 := hC1.frozen 2; have HS1 := Lib.hid hS1; clear hS1)
  have hz0 := HS1.out
  clear HC c0 c1 c2 c3 c4 c4d hC1 d2 f2 HS1
  generalize w1.setCell ⟨bt, 2, none⟩ (.map (some w.heap.size)) = W2 at hz0 ⊢
  go_loopw [40] (fun i wr => ∃ k : Nat, k ≤ 0 ∧ i = .int .i64 k ∧ CrAt w X bt room S w.heap.size sm (.slice none 0 0) YS YP LS ((S.pend.take k).foldl after (strip LS)) wr.heap.size wr) (fun i _ => 0 - (intOf i).toNat)
  case atStart => exact ⟨0, Nat.zero_le _, rfl, hz0⟩
  case round =>
    obtain ⟨k, hk, rfl, hcr⟩ := hrel
    have hkm : k = 0 := by omega
    rw [hkm] at hcr
    have hll := goes_len HG.out 0
    have hget : S.pend[0]? = none := List.getElem?_eq_none (by have := HNL.out; omega)
    have HL2 := Lib.hid (crash_none (part := part) HN.out (.inl hget))
    obtain ⟨lo, hlo⟩ : ∃ lo, lo = (S.pend.take 0).foldl after (strip LS) := ⟨_, rfl⟩
    have HL3 : Hid (crashL (S.clock, S.now, strip LS, S.pend) many part = lo) := by show _ = _; rw [HL2.out, hlo]
    rw [← hlo] at hcr hll
    clear hget HA HA2 HG HN HL2 hlo
    go_wp2_with (go_at_call 26; refine (HF.out _ _ _ (by assumption) (by assumption)).mono ?_; rintro e w9 ⟨rfl, hst⟩)
    go_end0
    exact ⟨rfl, by unfold opC; rw [HL3.out]; exact hst⟩

/-- What Crash leaves of any tree. -/
theorem crash_tree (bt : Nat) (X : Nat → Prop) (room : Int) (S : St) (many part : Int) (w : World) (h : TreeS w X bt room S) (hl : S.last.length ≤ 200) (hg : Goes S.last S.pend) (hp2 : part < 9223372036854775808) :
    Calls Tryz.prog 17 #[.pointer (some ⟨bt, 0, none⟩), .int .i64 many, .int .i64 part] w fun r w' => r = .returned (.tuple #[]) ∧ StepS w X bt room (opC S many part) w' := by
  obtain ⟨nm, sm, pv, YN, YS, YP, LN, LS, hp, h1, h2⟩ := h
  obtain ⟨cl, nw, la, pe⟩ := S
  have h2' : strip LS = la := h2
  subst h2'
  have hlS : LS.length ≤ 200 := by rw [← strip_length]; exact hl
  obtain ⟨o, c, rfl, q1, q2, q3, q4⟩ := hp.row.shape (fun _ => rfl)
  cases o with
  | none =>
    have hp0 : pe = [] := by
      cases pe with
      | nil => rfl
      | cons x r => obtain ⟨g, hg, _⟩ := q4 0 x rfl; cases hg
    subst hp0
    have hc0 : c = 0 := by
      rcases hp.row.1.2 with ⟨hv, _⟩ | ⟨g', cap, cur, hv, _⟩
      · simpa using hv
      · cases hv
    subst hc0
    exact crash_nil bt X many part room (cl, nw, strip LS, []) nm sm YN YS YP LN LS w hp rfl hlS hg (by omega) hp2
  | some a =>
    obtain ⟨g, rfl, _⟩ := q3 a rfl
    obtain ⟨m, hm⟩ : ∃ m : Nat, min (max many 0) (pe.length : Int) = (m : Int) := ⟨(min (max many 0) (pe.length : Int)).toNat, by omega⟩
    by_cases hmc : m < c
    · exact crash_some bt X g c pe.length many part room (cl, nw, strip LS, pe) nm sm YN YS YP LN LS w hp rfl hlS hg q1 q2 m hmc hm hp2
    · have e1 : m = c := by
        have hq1 : pe.length ≤ c := q1
        omega
      have e2 : pe.length = c := by
        have hq1 : pe.length ≤ c := q1
        omega
      subst e2
      exact crash_full bt X g pe.length many part room (cl, nw, strip LS, pe) nm sm YN YS YP LN LS w hp rfl hlS hg q2 (by rw [hm, e1]) hp2

end Go.Proofs.YtchnbnmajagpjaaGreatDoor

namespace Go.Proofs.YtchnbnmajagpjaaGreatDoor

/-- Files that may be there. -/
structure FsOk (room : Int) (l : Fs) : Prop where
  srt : Srt l
  len : l.length ≤ 200
  fit : (used l : Int) ≤ room
  short : ∀ y ∈ l, y.1.length ≤ 100
  texts : ∀ y ∈ l, y.2.1.length ≤ 16777216
  ways : ∀ y ∈ l, blocked l y.1 = false
theorem FsOk.nil {room : Int} (h : 0 ≤ room) : FsOk room [] := ⟨Srt.nil, by simp, by simpa [used] using h, by simp, by simp, by simp⟩
/-- A change that fits. -/
structure ChOk (l : Fs) (c : Ch) : Prop where
  kind : c.kind ≤ 3
  path : c.path.length ≤ 100
  arg : c.arg.length ≤ 16777216
  more : c.kind = 1 → (textOf l c.path).length + c.arg.length ≤ 16777216
  there : c.kind = 3 → (look l c.path).isSome = true
theorem ChOk.fits {l : Fs} {c : Ch} (h : ChOk l c) : Fits l c := ⟨h.kind, by have := h.path; omega, by have := h.arg; omega, fun hk => by have := h.more hk; omega, h.there⟩
def Run (room : Int) : Fs → List Ch → Prop
  | l, [] => FsOk room l
  | l, c :: r => FsOk room l ∧ ChOk l c ∧ Run room (after l c) r
theorem Run.head {room : Int} {l : Fs} : ∀ {cs : List Ch}, Run room l cs → FsOk room l
  | [], h => h
  | _ :: _, h => h.1
theorem Run.take {room : Int} : ∀ {l : Fs} {cs : List Ch}, Run room l cs → ∀ k, FsOk room ((cs.take k).foldl after l)
  | _, [], h, k => by simpa using (show FsOk room _ from h)
  | _, _ :: _, h, 0 => h.1
  | _, _ :: _, h, k + 1 => Run.take (cs := _) h.2.2 k
theorem Run.all {room : Int} {l : Fs} {cs : List Ch} (h : Run room l cs) : FsOk room (cs.foldl after l) := by
  have := h.take cs.length
  rwa [List.take_length] at this
theorem Run.at {room : Int} : ∀ {l : Fs} {cs : List Ch}, Run room l cs → ∀ k c, cs[k]? = some c → ChOk ((cs.take k).foldl after l) c
  | _, [], _, k, c, hk => by simp at hk
  | _, c' :: _, h, 0, c, hk => by
    have : c' = c := by simpa using hk
    rw [← this]; exact h.2.1
  | _, _ :: _, h, k + 1, c, hk => Run.at h.2.2 k c (by simpa using hk)
theorem Run.snoc {room : Int} : ∀ {l : Fs} {cs : List Ch} {c : Ch}, Run room l cs → ChOk (cs.foldl after l) c → FsOk room (after (cs.foldl after l) c) → Run room l (cs ++ [c])
  | _, [], _, h, h1, h2 => ⟨h, h1, h2⟩
  | _, _ :: _, _, h, h1, h2 => ⟨h.1, h.2.1, Run.snoc h.2.2 h1 h2⟩
theorem Run.goes {room : Int} : ∀ {l : Fs} {cs : List Ch}, Run room l cs → Goes l cs
  | _, [], h => FsOk.len h
  | _, _ :: _, h => ⟨h.1.len, h.2.1.fits, Run.goes h.2.2⟩

/-- A tree's invariant; n acts were done. -/
structure Good (room : Int) (n : Nat) (S : St) : Prop where
  room0 : 1 ≤ room
  room1 : room ≤ 1073741824
  clock0 : 0 ≤ S.clock
  clock1 : S.clock ≤ n
  pends : S.pend.length ≤ n
  run : Run room S.last S.pend
  now : S.pend.foldl after S.last = S.now
theorem Good.files {room : Int} {n : Nat} {S : St} (h : Good room n S) : FsOk room S.now := by rw [← h.now]; exact h.run.all
theorem Good.new {room : Int} (h0 : 1 ≤ room) (h1 : room ≤ 1073741824) : Good room 0 (0, [], [], []) :=
  ⟨h0, h1, Int.le_refl _, Int.le_refl _, Nat.le_refl _, FsOk.nil (by omega), rfl⟩
theorem Good.more {room : Int} {n m : Nat} {S : St} (h : Good room n S) (hm : n ≤ m) : Good room m S := ⟨h.room0, h.room1, h.clock0, by have := h.clock1; omega, by have := h.pends; omega, h.run, h.now⟩
theorem Good.ok {room : Int} {n : Nat} {S : St} (h : Good room n S) (hn : n < 536870912) : OkS room S :=
  ⟨by have := h.room0; omega, by have := h.room1; omega, h.clock0, by have := h.clock1; omega, h.files.len, by have := h.files.fit; have := h.room1; omega, by have := h.pends; omega⟩
theorem Good.did {room : Int} {n : Nat} {S : St} (h : Good room n S) (k : Nat) (p a : BS) (hc : ChOk S.now (k, p, a, S.clock + 1)) (hf : FsOk room (after S.now (k, p, a, S.clock + 1))) : Good room (n + 1) (doSt S k p a) := by
  refine ⟨h.room0, h.room1, by show 0 ≤ S.clock + 1; have := h.clock0; omega, by show S.clock + 1 ≤ _; have := h.clock1; omega, by show (S.pend ++ [_]).length ≤ _; rw [List.length_append]; have := h.pends; simp; omega, Run.snoc (l := S.last) (cs := S.pend) h.run (by rw [h.now]; exact hc) (by rw [h.now]; exact hf), ?_⟩
  show (S.pend ++ [_]).foldl after S.last = _
  rw [List.foldl_append, h.now]
  rfl

theorem way_sym {l : Fs} {p : BS} (h : blocked l p = false) : ∀ y ∈ l, way y.1 p = false ∧ way p y.1 = false := by
  intro y hy
  unfold blocked at h
  have := (List.any_eq_false.1 h) y hy
  simpa using this
theorem blk_of {l : Fs} {p : BS} (h : ∀ y ∈ l, way y.1 p = false ∧ way p y.1 = false) : blocked l p = false := by
  unfold blocked
  rw [List.any_eq_false]
  intro y hy
  have := h y hy
  simp [this]
theorem FsOk.put {room : Int} {l : Fs} {p t : BS} {m : Int} (h : FsOk room l) (hp : p.length ≤ 100) (ht : t.length ≤ 16777216) (hb : blocked l p = false) (hu : (used l : Int) - ((textOf l p).length : Int) + (t.length : Int) ≤ room) (hl : l.length < 200 ∨ (look l p).isSome = true) : FsOk room (put (p, t, m) l) := by
  have hs := way_sym hb
  refine ⟨h.srt.put _, ?_, ?_, fun y hy => ?_, fun y hy => ?_, fun y hy => blk_of fun z hz => ?_⟩
  · rw [put_length h.srt]
    have := h.len
    split
    · omega
    · rename_i hh
      rcases hl with hl | hl
      · omega
      · exact absurd hl hh
  · have := used_put h.srt p (t, m)
    simp only at this
    omega
  · rcases mem_put.1 hy with rfl | hy
    · exact hp
    · exact h.short y hy.1
  · rcases mem_put.1 hy with rfl | hy
    · exact ht
    · exact h.texts y hy.1
  · rcases mem_put.1 hy with rfl | hy <;> rcases mem_put.1 hz with rfl | hz
    · exact ⟨way_self _, way_self _⟩
    · exact hs z hz.1
    · exact ⟨(hs y hy.1).2, (hs y hy.1).1⟩
    · exact way_sym (h.ways y hy.1) z hz.1
theorem drp_le (p : BS) (l : Fs) : (drp p l).length ≤ l.length := List.length_filter_le _ _
theorem used_drp {l : Fs} (h : Srt l) (p : BS) : used (drp p l) + (textOf l p).length = used l := by
  unfold textOf
  cases hl : look l p with
  | none => rw [drp_none hl]; simp
  | some u => have := used_perm (drp_perm h hl); rw [used_cons] at this; simp at this ⊢; omega
theorem FsOk.drp {room : Int} {l : Fs} (h : FsOk room l) (p : BS) : FsOk room (drp p l) := by
  refine ⟨h.srt.drp _, by have := drp_le p l; have := h.len; omega, ?_, fun y hy => h.short y (mem_drp.1 hy).1, fun y hy => h.texts y (mem_drp.1 hy).1, fun y hy => blk_of fun z hz => way_sym (h.ways y (mem_drp.1 hy).1) z (mem_drp.1 hz).1⟩
  have := used_drp h.srt p
  have := h.fit
  omega

theorem FsOk.rename {room : Int} {l : Fs} {p q t : BS} {m : Int} (h : FsOk room l) (hl : look l p = some (t, m)) (hq : q.length ≤ 100) (hb : blocked (Proofs.YtchnbnmajagpjaaGreatDoor.drp p l) q = false) : FsOk room (Proofs.YtchnbnmajagpjaaGreatDoor.put (q, t, m) (Proofs.YtchnbnmajagpjaaGreatDoor.drp p l)) := by
  have hd := h.drp p
  have ht := h.texts _ (look_mem hl)
  refine hd.put hq ht hb ?_ (.inl ?_)
  · have h1 := used_drp h.srt p
    have h2 := h.fit
    have h3 : textOf l p = t := by unfold textOf; rw [hl]; rfl
    rw [h3] at h1
    omega
  · have h1 := (drp_perm h.srt hl).length_eq
    have h2 := h.len
    rw [List.length_cons] at h1
    omega

/-! ### the acts -/
theorem Good.opW {room : Int} {n : Nat} {S : St} (h : Good room n S) (p s : BS) : Good room (n + 1) (opW room S p s).2 := by
  unfold Proofs.YtchnbnmajagpjaaGreatDoor.opW
  by_cases hc : checkC room S.now p s.length = 0
  · rw [if_pos hc]
    obtain ⟨k1, k2, k3, k4, k5⟩ := check_ok hc
    have hp := path_short k1
    refine h.did 0 p s ⟨by simp [Ch.kind], hp, k2, fun hk => by simp [Ch.kind] at hk, fun hk => by simp [Ch.kind] at hk⟩ ?_
    rw [after0]
    exact h.files.put hp k2 k3 k4 k5
  · rw [if_neg hc]; exact h.more (Nat.le_succ _)
theorem Good.opA {room : Int} {n : Nat} {S : St} (h : Good room n S) (p s : BS) : Good room (n + 1) (opA room S p s).2 := by
  unfold Proofs.YtchnbnmajagpjaaGreatDoor.opA
  by_cases hc : checkC room S.now p ((textOf S.now p).length + s.length) = 0
  · rw [if_pos hc]
    obtain ⟨k1, k2, k3, k4, k5⟩ := check_ok hc
    have hp := path_short k1
    refine h.did 1 p s ⟨by simp [Ch.kind], hp, by simp only [Ch.arg]; omega, fun hk => by simpa only [Ch.path, Ch.arg] using k2, fun hk => by simp [Ch.kind] at hk⟩ ?_
    rw [after1]
    exact h.files.put hp (by rw [List.length_append]; exact k2) k3 (by rw [List.length_append]; exact k4) k5
  · rw [if_neg hc]; exact h.more (Nat.le_succ _)
theorem Good.opR {room : Int} {n : Nat} {S : St} (h : Good room n S) (p : BS) : Good room (n + 1) (opR S p).2 := by
  unfold Proofs.YtchnbnmajagpjaaGreatDoor.opR
  cases hl : (look S.now p).isSome with
  | false => rw [if_neg (by simp)]; exact h.more (Nat.le_succ _)
  | true =>
    rw [if_pos rfl]
    obtain ⟨v, hv⟩ := Option.isSome_iff_exists.1 hl
    have hps := h.files.short _ (look_mem hv)
    refine h.did 2 p [] ⟨by simp [Ch.kind], hps, by simp [Ch.arg], fun hk => by simp [Ch.kind] at hk, fun hk => by simp [Ch.kind] at hk⟩ ?_
    rw [after2]
    exact h.files.drp p
theorem after3_hitS {l : Fs} {p a : BS} {t : Int} {v : FD} (h : look l p = some v) : after l (3, p, a, t) = put (a, v) (drp p l) := by
  unfold after
  rw [if_neg (show ¬ (3 : Nat) = 0 by decide), if_neg (show ¬ (3 : Nat) = 1 by decide), if_neg (show ¬ (3 : Nat) = 2 by decide)]
  show (match look l p with | none => l | some v => put (a, v) (drp p l)) = _
  rw [h]
theorem Good.opN {room : Int} {n : Nat} {S : St} (h : Good room n S) (p q : BS) : Good room (n + 1) (opN S p q).2 := by
  unfold Proofs.YtchnbnmajagpjaaGreatDoor.opN
  cases hl : (look S.now p).isSome with
  | false => rw [if_pos rfl]; exact h.more (Nat.le_succ _)
  | true =>
    rw [if_neg (by simp)]
    cases hq : pathB q with
    | false => rw [if_pos rfl]; exact h.more (Nat.le_succ _)
    | true =>
      rw [if_neg (by simp)]
      by_cases he : p = q
      · rw [if_pos he]; exact h.more (Nat.le_succ _)
      · rw [if_neg he]
        cases hb : blocked (Proofs.YtchnbnmajagpjaaGreatDoor.drp p S.now) q with
        | true => rw [if_pos rfl]; exact h.more (Nat.le_succ _)
        | false =>
          rw [if_neg (by simp)]
          obtain ⟨⟨t, m⟩, hv⟩ := Option.isSome_iff_exists.1 hl
          have hqs := path_short hq
          have hps := h.files.short _ (look_mem hv)
          refine h.did 3 p q ⟨by simp [Ch.kind], hps, by simp only [Ch.arg]; omega, fun hk => by simp [Ch.kind] at hk, fun _ => hl⟩ ?_
          rw [after3_hitS hv]
          exact h.files.rename hv hqs hb
theorem Good.opS {room : Int} {n : Nat} {S : St} (h : Good room n S) : Good room n (opS S) := ⟨h.room0, h.room1, h.clock0, h.clock1, Nat.zero_le _, h.files, rfl⟩

/-- A torn change leaves files that may be there. -/
theorem FsOk.torn {room : Int} {l : Fs} {c : Ch} (h : FsOk room l) (hc : ChOk l c) (hk : c.kind ≤ 1) (ha : FsOk room (after l c)) (part : Int) : FsOk room (after l (tornC c part)) := by
  obtain ⟨k, p, a, t⟩ := c
  have hk' : k ≤ 1 := hk
  have hal : a.length ≤ 16777216 := hc.arg
  have hpl : p.length ≤ 100 := hc.path
  have hle : (a.take part.toNat).length ≤ a.length := by rw [List.length_take]; omega
  have key : ∀ x y : BS, y.length ≤ x.length → x.length ≤ 16777216 → FsOk room (Proofs.YtchnbnmajagpjaaGreatDoor.put (p, x, t) l) → FsOk room (Proofs.YtchnbnmajagpjaaGreatDoor.put (p, y, t) l) := by
    intro x y hxy hx hax
    have hbk : blocked l p = false := by
      have h1 := hax.ways (p, x, t) (mem_put.2 (.inl rfl))
      refine blk_of fun z hz => ?_
      by_cases he : z.1 = p
      · rw [he]; exact ⟨way_self _, way_self _⟩
      · exact way_sym h1 z (mem_put.2 (.inr ⟨hz, he⟩))
    refine h.put hpl (by omega) hbk ?_ ?_
    · have h1 := used_put h.srt p (x, t)
      have h2 := hax.fit
      simp only at h1
      omega
    · have h1 := put_length h.srt p (x, t)
      have h2 := hax.len
      cases hs : (look l p).isSome with
      | true => exact .inr rfl
      | false => rw [hs] at h1; simp at h1; exact .inl (by omega)
  rcases (show k = 0 ∨ k = 1 by omega) with rfl | rfl
  · rw [after0] at ha
    show FsOk room (after l (0, p, a.take part.toNat, t))
    rw [after0]
    exact key a _ hle hal ha
  · have hm : (textOf l p).length + a.length ≤ 16777216 := hc.more rfl
    rw [after1] at ha
    show FsOk room (after l (1, p, a.take part.toNat, t))
    rw [after1]
    exact key (textOf l p ++ a) _ (by rw [List.length_append, List.length_append]; omega) (by rw [List.length_append]; omega) ha
theorem Good.crashL {room : Int} {n : Nat} {S : St} (h : Good room n S) (many part : Int) : FsOk room (crashL S many part) := by
  unfold Proofs.YtchnbnmajagpjaaGreatDoor.crashL
  have ht := h.run.take (crashN S many)
  cases hc : S.pend[crashN S many]? with
  | none => exact ht
  | some c =>
    have hk := h.run.at _ _ hc
    have hlt := (List.getElem?_eq_some_iff.1 hc).1
    have hge := (List.getElem?_eq_some_iff.1 hc).2
    by_cases hh : 1 ≤ part ∧ c.kind ≤ 1
    · simp only [if_pos hh]
      refine ht.torn hk hh.2 ?_ part
      have := h.run.take (crashN S many + 1)
      rw [fold_take hlt, hge] at this
      exact this
    · simp only [if_neg hh]; exact ht
theorem Good.opC {room : Int} {n : Nat} {S : St} (h : Good room n S) (many part : Int) : Good room n (opC S many part) := ⟨h.room0, h.room1, h.clock0, h.clock1, Nat.zero_le _, h.crashL many part, rfl⟩

end Go.Proofs.YtchnbnmajagpjaaGreatDoor
