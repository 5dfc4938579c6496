/-
  What Write, Append, Remove, Rename answer, and what they leave of a tree.
-/
import Derived.Test.YtginlknlkbhgaaaFCheck
namespace Go.Proofs.Ytginlknlkbhgaaa
open Go.RowKit Go.Shelf Go.Maps

/-- The clock, the files, those of the last sync, what is pending. -/
abbrev St := Int × (Fs × (Fs × List Ch))
abbrev St.clock (S : St) : Int := S.1
abbrev St.now (S : St) : Fs := S.2.1
abbrev St.last (S : St) : Fs := S.2.2.1
abbrev St.pend (S : St) : List Ch := S.2.2.2
def doSt (S : St) (k : Nat) (p a : BS) : St := (S.clock + 1, after S.now (k, p, a, S.clock + 1), S.last, S.pend ++ [(k, p, a, S.clock + 1)])
def opW (room : Int) (S : St) (p s : BS) : Int × St := if checkC room S.now p s.length = 0 then (0, doSt S 0 p s) else (checkC room S.now p s.length, S)
def opA (room : Int) (S : St) (p s : BS) : Int × St :=
  if checkC room S.now p ((textOf S.now p).length + s.length) = 0 then (0, doSt S 1 p s) else (checkC room S.now p ((textOf S.now p).length + s.length), S)
def opR (S : St) (p : BS) : Int × St := if (look S.now p).isSome then (0, doSt S 2 p []) else (4, S)
def opN (S : St) (p q : BS) : Int × St :=
  if (look S.now p).isSome = false then (4, S) else if pathB q = false then (1, S) else if p = q then (0, S) else if blocked (drp p S.now) q = true then (5, S) else (0, doSt S 3 p q)

def TreeS (w : World) (X : Nat → Prop) (bt : Nat) (room : Int) (S : St) : Prop := TreeR w X bt room S.clock S.now S.last S.pend
def StepS (w : World) (X : Nat → Prop) (bt : Nat) (room : Int) (S : St) (w' : World) : Prop := Stepped w X bt room S.clock S.now S.last S.pend w'
/-- What the walks ask of the numbers. -/
structure OkS (room : Int) (S : St) : Prop where
  room0 : 0 ≤ room
  room1 : room < 4611686018427387904
  clock0 : 0 ≤ S.clock
  clock1 : S.clock < 4611686018427387904
  files : S.now.length ≤ 200
  bytes : used S.now < 4611686018427387904
  pends : S.pend.length < 536870912

theorem StepS.same {w w' : World} {X : Nat → Prop} {bt : Nat} {room : Int} {S : St} (h : TreeS w X bt room S) (hb : Below w.heap.size w w') : StepS w X bt room S w' :=
  ⟨X, TreeR.below h hb, (turned_below hb).wider (fun _ h => h.elim), fun _ => .inl⟩
theorem StepS.behind {w w1 w' : World} {X : Nat → Prop} {bt : Nat} {room : Int} {S : St} (hb : Below w.heap.size w w1) (h : StepS w1 X bt room S w') : StepS w X bt room S w' := by
  obtain ⟨X', h1, h2, h3⟩ := h
  exact ⟨X', h1, ((turned_below hb).wider (fun _ h => h.elim)).trans h2, fun n hn => (h3 n hn).elim .inl (fun h => .inr (by have := hb.size; omega))⟩

theorem check_any (bt : Nat) (X : Nat → Prop) (p : ByteArray) (n : Nat) (room : Int) (S : St) (w : World) (h : TreeS w X bt room S) (ho : OkS room S) (hp : p.size ≤ maxLen) (_hn : n < 4611686018427387904) :
    Calls Try.prog 36 #[.pointer (some ⟨bt, 0, none⟩), .string p, .int .i64 n] w fun r w' => r = .returned (.int .i64 (checkC room S.now p.data.toList n)) ∧ Below w.heap.size w w' := by
  obtain ⟨nm, sm, pv, YN, YS, YP, LN, LS, hq, h1, h2⟩ := h
  unfold checkC
  cases hpb : pathB p.data.toList with
  | false => rw [if_pos rfl]; exact check_arg bt p n w hp hpb
  | true =>
    rw [if_neg (by simp)]
    by_cases hl : 16777216 < n
    · rw [if_pos hl]; exact check_long bt p n w hp hpb hl
    · rw [if_neg hl]
      cases hbk : blocked S.now p.data.toList with
      | true => rw [if_pos rfl]; exact check_there bt p n room _ nm sm pv LN w hq.cells hq.now.map hp hpb hl (by rw [h1]; exact hbk)
      | false =>
        rw [if_neg (by simp)]
        refine check_rest bt p n room _ nm sm pv LN w hq.cells hq.now.map hp hpb hl (by rw [h1]; exact hbk) (by rw [h1]; exact ho.bytes) ho.room0 ho.room1 _ ?_
        rw [h1]
        by_cases hr : room < (used S.now : Int) - ((textOf S.now p.data.toList).length : Int) + (n : Int)
        · left; exact ⟨hr, if_pos hr⟩
        · right
          refine ⟨hr, ?_⟩
          rw [if_neg hr]
          by_cases hc : 200 ≤ S.now.length ∧ (look S.now p.data.toList).isSome = false
          · left; exact ⟨hc.1, hc.2, if_pos hc⟩
          · right; exact ⟨hc, if_neg hc⟩

theorem check_ok {room : Int} {now : Fs} {p : BS} {n : Nat} (h : checkC room now p n = 0) : pathB p = true ∧ n ≤ 16777216 ∧ blocked now p = false ∧ (used now : Int) - ((textOf now p).length : Int) + (n : Int) ≤ room ∧ (now.length < 200 ∨ (look now p).isSome = true) := by
  unfold checkC at h
  split at h
  · cases h
  · split at h
    · cases h
    · split at h
      · cases h
      · split at h
        · cases h
        · split at h
          · cases h
          · rename_i h1 h2 h3 h4 h5
            refine ⟨by simpa using h1, by omega, by simpa using h3, by omega, ?_⟩
            by_cases h6 : now.length < 200
            · exact .inl h6
            · right
              cases hx : (look now p).isSome
              · exact absurd ⟨by omega, hx⟩ h5
              · rfl
theorem path_short {p : BS} (h : pathB p = true) : p.length ≤ 100 := by
  unfold pathB at h
  simp only [Bool.and_eq_true, decide_eq_true_eq] at h
  exact h.1.1.1

set_option maxRecDepth 100000 in
set_option maxHeartbeats 2000000 in
theorem write_err (bt : Nat) (p s : ByteArray) (c : Int) (hc : c ≠ 0) (w : World) (_hs : s.size < 4611686018427387904)
    (hck : Calls Try.prog 36 #[.pointer (some ⟨bt, 0, none⟩), .string p, .int .i64 s.size] w fun r w' => r = .returned (.int .i64 c) ∧ Below w.heap.size w w') :
    Calls Try.prog 15 #[.pointer (some ⟨bt, 0, none⟩), .string p, .string s] w fun r w' => r = .returned (.int .i64 c) ∧ Below w.heap.size w w' := by
  have HC := Lib.hid hck
  have e1 : (c != 0) = true := by simpa using hc
  clear hck
  go_enter Try.func15, Try.ntmps15
  go_wp2_with (go_at_call 36; refine (HC.out).mono ?_; rintro e w1 ⟨rfl, hb⟩)
  go_ret
  exact ⟨rfl, hb⟩

set_option maxRecDepth 100000 in
set_option maxHeartbeats 2000000 in
theorem write_ok (bt : Nat) (p s : ByteArray) (w : World) (_hs : s.size < 4611686018427387904) (Q : World → Prop)
    (hck : Calls Try.prog 36 #[.pointer (some ⟨bt, 0, none⟩), .string p, .int .i64 s.size] w fun r w' => r = .returned (.int .i64 0) ∧ Below w.heap.size w w')
    (hdo : ∀ w1, Below w.heap.size w w1 → Calls Try.prog 37 #[.pointer (some ⟨bt, 0, none⟩), .agg #[.int .i64 0, .string p, .string ⟨#[]⟩, .string s, .int .i64 0]] w1 fun r w' => r = .returned (.tuple #[]) ∧ Q w') :
    Calls Try.prog 15 #[.pointer (some ⟨bt, 0, none⟩), .string p, .string s] w fun r w' => r = .returned (.int .i64 0) ∧ Q w' := by
  have HC := Lib.hid hck
  have HD := Lib.hid hdo
  clear hck hdo
  go_enter Try.func15, Try.ntmps15
  go_wp2_with (first
    | (go_at_call 36; refine (HC.out).mono ?_; rintro e w1 ⟨rfl, hb⟩)
    | (go_at_call 37; refine (HD.out _ (by assumption)).mono ?_; rintro e w2 ⟨rfl, hq⟩))
  go_ret
  exact ⟨rfl, hq⟩

theorem write_tree (bt : Nat) (X : Nat → Prop) (p s : ByteArray) (room : Int) (S : St) (w : World) (h : TreeS w X bt room S) (ho : OkS room S) (hp : p.size ≤ 1048576) (hs : s.size ≤ 1048576) :
    Calls Try.prog 15 #[.pointer (some ⟨bt, 0, none⟩), .string p, .string s] w fun r w' => r = .returned (.int .i64 (opW room S p.data.toList s.data.toList).1) ∧ StepS w X bt room (opW room S p.data.toList s.data.toList).2 w' := by
  have hck := check_any bt X p s.size room S w h ho (by unfold maxLen; omega) (by omega)
  unfold opW
  rw [size_list]
  by_cases hc : checkC room S.now p.data.toList s.size = 0
  · rw [if_pos hc]
    rw [hc] at hck
    obtain ⟨k1, k2, k3, k4, k5⟩ := check_ok hc
    refine write_ok bt p s w (by omega) _ hck (fun w1 hb => ?_)
    have h1 : TreeS w1 X bt room S := TreeR.below h hb
    refine (do_any bt X 0 p ⟨#[]⟩ s s.data.toList room _ _ _ _ w1 ho.clock0 ho.clock1 h1 ?_ ?_ (by have := ho.files; omega) (by have := ho.pends; omega)).mono (fun r w' hr => ⟨hr.1, StepS.behind hb hr.2⟩)
    · simp only [chCells, toOf, txtOf, Ch.kind, Ch.path, Ch.arg, Ch.time]
      rw [txt_toList, if_neg (by omega), if_pos (by omega), txt_toList]; rfl
    · refine ⟨by simp [Ch.kind], by simp only [Ch.path]; rw [size_list]; omega, by simp only [Ch.arg]; rw [size_list]; omega, fun h => by simp [Ch.kind] at h, fun h => by simp [Ch.kind] at h⟩
  · rw [if_neg hc]
    exact (write_err bt p s _ hc w (by omega) hck).mono (fun r w' hr => ⟨hr.1, StepS.same h hr.2⟩)

end Go.Proofs.Ytginlknlkbhgaaa
