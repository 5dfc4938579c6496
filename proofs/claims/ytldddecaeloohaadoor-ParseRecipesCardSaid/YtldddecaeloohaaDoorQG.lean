/-
  What the program's fits and isBehindRule answer. No condition but that fewer than 2^30 are open.
-/
import Derived.Test.YtldddecaeloohaaDoorQF
namespace Go.Proofs.YtldddecaeloohaaDoor
open Go.RowKit Go.Shelf
attribute [local go_sem] Oper.semAt_some

/-- What a node leaves of what is open, and of the first one that was too deep; none: it does not fit. -/
def fitStep (op : List Bool) (dp : Option Int) (n : Nd) : Option (List Bool × Option Int) :=
  if n.kind = 3 then some (false :: op, if op.length = 20 ∧ dp = none then some n.no else dp)
  else if n.kind = 4 then (match op with | false :: o => some (true :: o, dp) | _ => none)
  else if n.kind = 5 then (match op with | _ :: o => some (o, dp) | [] => none)
  else some (op, dp)
def FitPost (w0 : World) (ib : Nat) (l : List Own) (r : Option (List Bool × Option Int)) (e : Ending) (w' : World) : Prop :=
  ∃ op' dp', e = .returned (.bool r.isSome) ∧ (∀ q, r = some q → q = (op', dp')) ∧ In w0 (oNest ib op' dp' :: l) w'
set_option maxRecDepth 100000 in
set_option maxHeartbeats 4000000 in
theorem In.fits {w0 w : World} {l : List Own} {ib : Nat} {op : List Bool} {dp : Option Int} (h : In w0 (oNest ib op dp :: l) w) (n : Nd) (hl : op.length ≤ 1000000) :
    Calls Tryd.prog 26 #[.pointer (some ⟨ib, 0, none⟩), .agg (cellsN n)] w (FitPost w0 ib l (fitStep op dp n)) := by
  have hbox := World.alloc_heap_new w (.cells (cellsN n) 49)
  have h1 := h.below ((Below.refl _ w).alloc (Nat.le_refl _) (.cells (cellsN n) 49))
  have hne : ib ≠ w.heap.size := by
    obtain ⟨X, hX, _⟩ := h.get (e := oNest ib op dp) (by simp)
    have := hX.2.2 ib hX.2.1
    omega
  have b0 : (w.alloc (.cells (cellsN n) 49)).cell? ⟨w.heap.size, 0, none⟩ = some (.int .i64 n.kind) := by rw [Lib.cell_of_heap hbox]; rfl
  have b1 : (w.alloc (.cells (cellsN n) 49)).cell? ⟨w.heap.size, 1, none⟩ = some (.int .i64 n.no) := by rw [Lib.cell_of_heap hbox]; rfl
  clear hbox h
  go_enter Tryd.func26, Tryd.ntmps26
  go_upto_region 1 with fail
  change In w0 (oNest ib op dp :: l) (w.alloc (.cells #[.int .i64 n.kind, .int .i64 n.no, .string (txt n.op), .string (txt n.name), .string (txt n.text), .string (txt n.targets), .string (txt n.pattern), .string (txt n.inputs), .string (txt n.order), .slice none 0 0] 49)) at h1
  generalize w.alloc (.cells #[.int .i64 n.kind, .int .i64 n.no, .string (txt n.op), .string (txt n.name), .string (txt n.text), .string (txt n.targets), .string (txt n.pattern), .string (txt n.inputs), .string (txt n.order), .slice none 0 0] 49) = W at h1 b0 b1 ⊢
  generalize w.heap.size = bb at hne b0 b1 ⊢
  obtain ⟨g, cap, f0, f1, f2, ff, hcap, fg, ft⟩ := h1.nestAt
  have H1 := Lib.hid h1
  clear h1
  by_cases h3 : n.kind = 3
  · have ek : (n.kind == 3) = true := by simp [h3]
    have HS0 : Hid (fitStep op dp n = some (false :: op, if op.length = 20 ∧ dp = none then some n.no else dp)) := by show _ = _; unfold fitStep; rw [if_pos h3]
    clear h3
    by_cases hA : op.length = 20 ∧ dp = none
    · have HS : Hid (fitStep op dp n = some (false :: op, some n.no)) := by show _ = _; rw [HS0.out, if_pos hA]
      obtain ⟨hA1, rfl⟩ := hA
      have e20 : ((op.length : Int) == 20) = true := by simp [hA1]
      have f1' : W.cell? ⟨ib, 21, none⟩ = some (.bool false) := f1
      clear f1 ft hA1 HS0
      have h2 := (H1.out.nestDeep n.no).below (show Below ((W.setCell ⟨ib, 21, none⟩ (.bool true)).setCell ⟨ib, 22, none⟩ (.int .i64 n.no)).heap.size ((W.setCell ⟨ib, 21, none⟩ (.bool true)).setCell ⟨ib, 22, none⟩ (.int .i64 n.no)) ((W.setCell ⟨ib, 21, none⟩ (.bool true)).setCell ⟨ib, 22, none⟩ (.int .i64 n.no)).drew from drewN_below' (Below.refl _ _))
      go_upto_region 5 with fail
      go_region
      generalize ((W.setCell ⟨ib, 21, none⟩ (.bool true)).setCell ⟨ib, 22, none⟩ (.int .i64 n.no)).drew = W5 at h2 ⊢
      clear f0 f1' f2 ff fg H1 b0 b1
      obtain ⟨g5, cap5, f0, f1, f2, ff, hcap5, fg, _⟩ := h2.nestAt
      obtain ⟨o6, c6, w6, hrun, q0, qf, h6⟩ := h2.nestPush f0 (by omega) 57 4
      have H6 := Lib.hid h6
      clear h2 h6
      go_wp2_with (first
        | (at_builtin; refine wpList_append_eq rfl _ _ 57 rfl _ _ _ w6 rfl rfl hrun ?_)
        | go_in)
      go_ret
      exact ⟨_, _, by rw [HS.out]; rfl, (fun q hq => by rw [HS.out] at hq; exact (Option.some.inj hq).symm), H6.out⟩
    · have HS : Hid (fitStep op dp n = some (false :: op, dp)) := by show _ = _; rw [HS0.out, if_neg hA]
      obtain ⟨o6, c6, w6, hrun, q0, qf, h6⟩ := H1.out.nestPush f0 (by omega) 57 4
      have H6 := Lib.hid h6
      clear h6 HS0 H1 ft
      by_cases hB : op.length = 20
      · cases dp with
        | none => exact absurd ⟨hB, rfl⟩ hA
        | some a =>
          have e20 : ((op.length : Int) == 20) = true := by simp [hB]
          have f1' : W.cell? ⟨ib, 21, none⟩ = some (.bool true) := f1
          clear hA hB f1
          go_wp2_with (first
            | (at_builtin; refine wpList_append_eq rfl _ _ 57 rfl _ _ _ w6 rfl rfl hrun ?_)
            | go_in)
          go_ret
          exact ⟨_, _, by rw [HS.out]; rfl, (fun q hq => by rw [HS.out] at hq; exact (Option.some.inj hq).symm), H6.out⟩
      · have e20 : ((op.length : Int) == 20) = false := by simp; omega
        clear hA hB
        go_wp2_with (first
          | (at_builtin; refine wpList_append_eq rfl _ _ 57 rfl _ _ _ w6 rfl rfl hrun ?_)
          | go_in)
        go_ret
        exact ⟨_, _, by rw [HS.out]; rfl, (fun q hq => by rw [HS.out] at hq; exact (Option.some.inj hq).symm), H6.out⟩
  by_cases h4 : n.kind = 4
  · have ek3 : (n.kind == 3) = false := by simp [h3]
    have ek4 : (n.kind == 4) = true := by simp [h4]
    cases op with
    | nil =>
      have HS : Hid (fitStep [] dp n = none) := by show _ = _; unfold fitStep; rw [if_neg h3, if_pos h4]
      obtain ⟨m, hm⟩ : ∃ m, m = ([] : List Bool).length := ⟨_, rfl⟩
      rw [← hm] at f0
      have dI : (m : Int) - 1 < 0 := by simp at hm; omega
      have hm5 : m ≤ 5 := by simp at hm; omega
      clear hm h3 h4 ft hcap
      go_wp2
      go_ret
      exact ⟨[], dp, by rw [HS.out]; rfl, (fun q hq => by rw [HS.out] at hq; cases hq), H1.out⟩
    | cons b o =>
      have hcell := ft b o rfl
      have hc1 : o.length + 1 ≤ cap := hcap
      have hl1 : o.length + 1 ≤ 1000000 := hl
      have dI : ¬ ((o.length : Int) + 1) - 1 < 0 := by omega
      simp only [List.length_cons] at f0
      cases b with
      | true =>
        have HS : Hid (fitStep (true :: o) dp n = none) := by show _ = _; unfold fitStep; rw [if_neg h3, if_pos h4]
        clear h3 h4 ft hcap hl
        go_wp2
        go_ret
        exact ⟨true :: o, dp, by rw [HS.out]; rfl, (fun q hq => by rw [HS.out] at hq; cases hq), H1.out⟩
      | false =>
        have HS : Hid (fitStep (false :: o) dp n = some (true :: o, dp)) := by show _ = _; unfold fitStep; rw [if_neg h3, if_pos h4]
        have H2 := Lib.hid (H1.out.nestTop f0 true)
        clear h3 h4 ft hcap hl
        go_wp2
        go_ret
        exact ⟨_, _, by rw [HS.out]; rfl, (fun q hq => by rw [HS.out] at hq; exact (Option.some.inj hq).symm), H2.out⟩
  by_cases h5 : n.kind = 5
  · have ek3 : (n.kind == 3) = false := by simp [h3]
    have ek4 : (n.kind == 4) = false := by simp [h4]
    have ek5 : (n.kind == 5) = true := by simp [h5]
    cases op with
    | nil =>
      have HS : Hid (fitStep [] dp n = none) := by show _ = _; unfold fitStep; rw [if_neg h3, if_neg h4, if_pos h5]
      obtain ⟨m, hm⟩ : ∃ m, m = ([] : List Bool).length := ⟨_, rfl⟩
      rw [← hm] at f0
      have dI : (m : Int) - 1 < 0 := by simp at hm; omega
      have hm5 : m ≤ 5 := by simp at hm; omega
      clear hm h3 h4 h5 ft hcap
      go_wp2
      go_ret
      exact ⟨[], dp, by rw [HS.out]; rfl, (fun q hq => by rw [HS.out] at hq; cases hq), H1.out⟩
    | cons b o =>
      have hc1 : o.length + 1 ≤ cap := hcap
      have hl1 : o.length + 1 ≤ 1000000 := hl
      have dI : ¬ ((o.length : Int) + 1) - 1 < 0 := by omega
      simp only [List.length_cons] at f0
      have HS : Hid (fitStep (b :: o) dp n = some (o, dp)) := by show _ = _; unfold fitStep; rw [if_neg h3, if_neg h4, if_pos h5]
      have H2 := Lib.hid (H1.out.nestPop f0)
      clear h3 h4 h5 ft hcap hl
      go_wp2
      go_ret
      exact ⟨_, _, by rw [HS.out]; rfl, (fun q hq => by rw [HS.out] at hq; exact (Option.some.inj hq).symm), H2.out⟩
  · have ek3 : (n.kind == 3) = false := by simp [h3]
    have ek4 : (n.kind == 4) = false := by simp [h4]
    have ek5 : (n.kind == 5) = false := by simp [h5]
    have HS : Hid (fitStep op dp n = some (op, dp)) := by show _ = _; unfold fitStep; rw [if_neg h3, if_neg h4, if_neg h5]
    clear h3 h4 h5
    go_wp2
    go_ret
    exact ⟨op, dp, by rw [HS.out]; rfl, (fun q hq => by rw [HS.out] at hq; exact (Option.some.inj hq).symm), H1.out⟩
set_option maxHeartbeats 1000000 in
theorem isBehind_nil (o : Option Addr) (c : Nat) (w : World) : Calls Tryd.prog 24 #[.slice o 0 c] w fun e w' => e = .returned (.bool false) ∧ w = w' := by
  go_enter Tryd.func24, Tryd.ntmps24
  go_wp2
  go_ret
  exact ⟨rfl, rfl⟩
set_option maxHeartbeats 1000000 in
theorem isBehind_last (g m c : Nat) (k : Int) (hm : m ≤ 1000000) (w : World) (hk : w.cell? ⟨g, m * 10, none⟩ = some (.int .i64 k)) : Calls Tryd.prog 24 #[.slice (some ⟨g, 0, none⟩) (m + 1) c] w fun e w' => e = .returned (.bool (k == 2)) ∧ w = w' := by
  go_enter Tryd.func24, Tryd.ntmps24
  go_wp2
  go_ret
  exact ⟨rfl, rfl⟩
end Go.Proofs.YtldddecaeloohaaDoor
