/-
  What the program's maps from paths to files answer, for any map, nil or not: has, collide.
-/
import Derived.Test.YtginlknlkbhgaaaFMap
import Derived.Test.YtginlknlkbhgaaaFWay
namespace Go.Proofs.Ytginlknlkbhgaaa
open Go.RowKit Go.Shelf Go.Maps

set_option maxRecDepth 100000 in
set_option maxHeartbeats 1000000 in
theorem has_any (m : Option Nat) (L : FVs) (s : ByteArray) (hs : s.size ≤ maxLen) (w : World) (h : MapV w m L) :
    Calls Try.prog 48 #[.map m, .string s] w fun e w' => e = .returned (.bool (look L s.data.toList).isSome) ∧ Below w.heap.size w w' := by
  have hrun := h.lookOk s hs
  obtain ⟨x, y, z, hf⟩ : ∃ x y z, fileV (fileOr L s) = .agg #[.string x, .int .i64 y, .pointer z] := ⟨_, _, _, rfl⟩
  obtain ⟨b, hb⟩ : ∃ b, b = (look L s.data.toList).isSome := ⟨_, rfl⟩
  rw [hf, ← hb] at hrun
  rw [← hb]
  clear hf hb h
  go_enter Try.func48, Try.ntmps48
  go_wp2
  go_ret
  exact ⟨rfl, (((Below.refl _ w).alloc (Nat.le_refl _) _))⟩

def wayB (a b : ByteArray) : Bool := way a.data.toList b.data.toList
theorem wayB_any (a b : ByteArray) (w : World) : Calls Try.prog 65 #[.string a, .string b] w fun e w' => e = .returned (.bool (wayB a b)) ∧ w = w' := isInWay_any a b w

set_option maxRecDepth 100000 in
theorem collide_nil (p lo : ByteArray) (w : World) : Calls Try.prog 51 #[.map none, .string p, .string lo] w fun e w' => e = .returned (.bool false) ∧ Below w.heap.size w w' := by
  have hrg := run_range_nilMap (P := Try.prog) w 64 9 85 Try.underlying64
  have hnx : ∀ ty, (Instr.next (.pointer (some ⟨w.heap.size, 0, none⟩)) false ty).run Try.prog (w.alloc (.mapIter none 0 #[] 0)) = _ := fun ty => run_next_nilMap w ty 0 0 #[]
  go_enter Try.func51, Try.ntmps51
  go_wp2
  refine wp_loop_rounds 1 ?_
  rw [rounds_succ]
  go_wp2
  go_ret
  exact ⟨rfl, (Below.refl _ w).alloc (Nat.le_refl _) _⟩

set_option maxRecDepth 100000 in
set_option maxHeartbeats 2000000 in
theorem collide_some (b : Nat) (L : FVs) (p lo : ByteArray) (w : World) (h : IsM w b L) :
    Calls Try.prog 51 #[.map (some b), .string p, .string lo] w fun e w' => e = .returned (.bool (blocked (drp lo.data.toList L) p.data.toList)) ∧ Below w.heap.size w w' := by
  have hlt := h.lt
  go_enter Try.func51, Try.ntmps51
  go_wp2_with (first
    | (at_range; refine wpList_range_m _ rfl _ rfl b L rfl h ?_; intro w0 hrg0 hg0 hs0)
    | go_in)
  go_frame
  go_loopw [7] (fun _ wr => ∃ rest : FVs, RngM wr b w.heap.size L rest ∧ Below w.heap.size w wr ∧ Hid (blocked (drp lo.data.toList L) p.data.toList = blocked (drp lo.data.toList rest) p.data.toList))
    (fun _ wr => wr.rangeLeft b w.heap.size)
  case atStart => exact ⟨L, hrg0, (Below.refl _ w).grown hg0 (Nat.le_refl _) (fun j hj => by cases hj), rfl⟩
  case round =>
    obtain ⟨rest, hrg, hbel, HB⟩ := hrel
    go_wp2_with (first
      | (at_next; refine wpList_next_m _ rfl _ rfl b w.heap.size L rest rfl hrg ?_ ?_)
      | go_in)
    · intro h0
      have HF : Hid (blocked (drp lo.data.toList L) p.data.toList = false) := by show _ = _; rw [HB.out, h0]; rfl
      clear h0
      go_wp2
      go_ret
      exact ⟨by rw [HF.out]; rfl, hbel⟩
    · intro q tx tm en w1 hq hql hrg1 hlt1 hg1 hs1 hen
      obtain ⟨_, _, _, _, hsr, _⟩ := id hrg
      have hb1 : Below w.heap.size w w1 := hbel.grown hg1 (by have := hbel.size; omega) (fun j hj => by cases hj; exact Nat.le_refl _)
      have HQ := Lib.hid hq
      have HS := Lib.hid hsr
      clear hq hsr hs1
      by_cases hne : q = lo
      · have e1 : (!q.toList == lo.toList) = false := str_ne_f hne
        have HN : Hid (blocked (drp lo.data.toList L) p.data.toList = blocked (drp lo.data.toList (drp q.data.toList rest)) p.data.toList) := by show _ = _; rw [HB.out, hne, blk_self]
        clear hne
        go_wp2
        go_roundw
        case rel => exact ⟨drp q.data.toList rest, hrg1, hb1, HN⟩
        case measure => exact hlt1
      · have e1 : (!q.toList == lo.toList) = true := str_ne_t hne
        have hne' : q.data.toList ≠ lo.data.toList := fun e => hne (by rw [← txt_toList q, ← txt_toList lo, e])
        clear hne
        cases h1 : wayB q p with
        | true =>
          have HT : Hid (blocked (drp lo.data.toList L) p.data.toList = true) := by show _ = _; rw [HB.out]; exact blk_yes HQ.out hne' (.inl h1)
          clear hne'
          go_wp2_with (go_at_call 65; refine (wayB_any _ _ _).mono ?_; rintro e w' ⟨rfl, rfl⟩)
          go_ret
          exact ⟨by rw [HT.out]; rfl, hb1⟩
        | false =>
          cases h2 : wayB p q with
          | true =>
            have HT : Hid (blocked (drp lo.data.toList L) p.data.toList = true) := by show _ = _; rw [HB.out]; exact blk_yes HQ.out hne' (.inr h2)
            clear hne'
            go_wp2_with (go_at_call 65; refine (wayB_any _ _ _).mono ?_; rintro e w' ⟨rfl, rfl⟩)
            go_ret
            exact ⟨by rw [HT.out]; rfl, hb1⟩
          | false =>
            have HN : Hid (blocked (drp lo.data.toList L) p.data.toList = blocked (drp lo.data.toList (drp q.data.toList rest)) p.data.toList) := by show _ = _; rw [HB.out, blk_other HS.out HQ.out hne' h1 h2]
            clear hne'
            go_wp2_with (go_at_call 65; refine (wayB_any _ _ _).mono ?_; rintro e w' ⟨rfl, rfl⟩)
            go_roundw
            case rel => exact ⟨drp q.data.toList rest, hrg1, hb1, HN⟩
            case measure => exact hlt1

theorem collide_any (m : Option Nat) (L : FVs) (p lo : ByteArray) (w : World) (h : MapV w m L) :
    Calls Try.prog 51 #[.map m, .string p, .string lo] w fun e w' => e = .returned (.bool (blocked (drp lo.data.toList L) p.data.toList)) ∧ Below w.heap.size w w' := by
  rcases h with ⟨rfl, rfl⟩ | ⟨b, rfl, h⟩
  · exact collide_nil p lo w
  · exact collide_some b L p lo w h

end Go.Proofs.Ytginlknlkbhgaaa
