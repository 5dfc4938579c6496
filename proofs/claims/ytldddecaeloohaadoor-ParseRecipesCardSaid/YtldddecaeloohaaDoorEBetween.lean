/-
  What text.between tells: the pieces of a text between the bytes at which it is cut. For every text, whatever it is cut at.
-/
import Derived.RangeFuncNested
import Derived.RangeFuncBound
import Derived.RangeFuncCalls
import Derived.RangeFuncLeaves
import Derived.Shelf.Abstract
import Derived.Shelf.RegionOpen
import Derived.WalkKit
import Derived.OwnWalkIn
import Derived.TacticsInMore
import Derived.LoopNIn
import Derived.LoopIn
import Derived.WalkSpells
import Derived.Outline
import Derived.Lib.Hide
import Derived.Deep.QuietTactic
import Derived.BigQuiet
import Derived.Test.YtldddecaeloohaaDoorIter
import Derived.Test.YtldddecaeloohaaDoorELeaf
namespace Go.Proofs.YtldddecaeloohaaDoor
open Go.RowKit Go.Shelf
attribute [local go_sem] Oper.semAt_some

theorem still_call {P : Program} {f : FuncId} {args : Array Value} {w : World} {m : Nat} {v : Value} (h : Calls P f args (w.drewN m) fun e w' => e = .returned v ∧ w.drewN m = w') :
    Calls P f args (w.drewN m) fun e w' => e = .returned v ∧ ∃ j, w' = w.drewN j := h.mono fun _ _ h => ⟨h.1, m, h.2.symm⟩

set_option maxRecDepth 100000 in
set_option maxHeartbeats 1000000 in
theorem between1_tells (n : Nat) (s : ByteArray) (hs : s.size ≤ maxLen) (p : UInt8 → Bool) (k : Nat) (hk : ∀ args w, (callFunc k args).run Tryd.prog w = .ok (.enter k args) w)
    (hcut : ∀ (c : UInt8) (w : World), Calls Tryd.prog k #[.int .u8 (c.toNat : Int)] w fun e w' => e = .returned (.bool (p c)) ∧ w = w') (b1 b2 : Nat) (w : World)
    (hb1 : Boxed w b1 9 (.string s)) (hb2 : Boxed w b2 70 (.func (.func k) #[] #[])) :
    Tells n Tryd.prog 52 #[.pointer (some ⟨b1, 0, none⟩), .pointer (some ⟨b2, 0, none⟩)] (fun x : ByteArray => #[Value.string x]) (fun j => j = b1 ∨ j = b2) ((pieces p s.data.toList).map txt) w := by
  intro l J Jx W hW hJ hJx hY h0
  have hB1 := hW.boxed hb1 (.inl rfl)
  have hB2 := hW.boxed hb2 (.inr rfl)
  unfold maxLen at hs
  refine callsIn_of_wp Tryd.func52 rfl trivial ?_ rfl
  simp only [Tryd.ntmps52, List.size_toArray, List.length_cons, List.length_nil, Nat.reduceAdd, Nat.reduceSub, Array.replicate_succ, Array.replicate_zero, List.push_toArray, List.append_toArray, List.nil_append, List.cons_append]
  have hc1 := hB1.cell
  have hc2 := hB2.cell
  gi_wp2
  gi_loopw [4, 8] (fun st i wr => ∃ (a m : Nat) (pre : List ByteArray), st = .int .i64 a ∧ i = .int .i64 m ∧ a ≤ m ∧ m ≤ s.size ∧ (∀ c ∈ (s.data.toList.drop a).take (m - a), p c = false) ∧
      (pieces p s.data.toList).map txt = pre ++ (pieces p (s.data.toList.drop a)).map txt ∧ Boxed wr b1 9 (.string s) ∧ Boxed wr b2 70 (.func (.func k) #[] #[]) ∧ J (fun j => j = b1 ∨ j = b2) pre wr)
    (fun _ i _ => s.size - (intOf i).toNat)
  case atStart => exact ⟨0, 0, [], rfl, rfl, Nat.le_refl _, Nat.zero_le _, by simp, by simp, hB1, hB2, h0⟩
  case round =>
    obtain ⟨a, m, pre, rfl, rfl, ham, hms, hno, hp, hr1, hr2, hJs⟩ := hrel
    have hc3 := hr1.cell
    have hc4 := hr2.cell
    by_cases hlt : m < s.size
    · cases hpc : p s[m] with
      | true =>
        have HC : Hid (∀ w, Calls Tryd.prog k #[.int .u8 (s[m].toNat : Int)] w fun e w' => e = .returned (.bool true) ∧ w = w') := fun w => by have := hcut s[m] w; rwa [hpc] at this
        have HK := Lib.hid hpc; clear hpc
        gi_wp2
        refine wpIn_wide.2 ?_
        go_quiet ((exact still_call (HC.out _)))
        have hcut1 := cut_at p s.data.toList a m ham (by simpa using hlt) hno HK.out
        have hJd := hJ _ _ _ _ _ hJs (Turned.drewN _ wr nq) (fun j h => .inl h)
        have hpx : (pieces p s.data.toList).map txt = (pre ++ [s.extract a m]) ++ (pieces p (s.data.toList.drop (m + 1))).map txt := by
          rw [hp, hcut1, extract_txt]; simp
        have hR0 := hY _ pre (s.extract a m) _ hJd ⟨_, hpx.symm⟩
        have hk3 := (Kept.drewN (fun j => j = b1 ∨ j = b2) wr nq)
        have hd1 := hk3.boxed hr1 (.inl rfl)
        have hd2 := hk3.boxed hr2 (.inr rfl)
        have hc5 := hd1.cell
        obtain ⟨fn, tmps, assign, body, hy, hR⟩ := hR0
        have HP := Lib.hid hpx
        have HR := Lib.hid hR
        clear hpx hcut1 hp hno hR hk3
        gi_wp2
        refine ⟨(fun h => (by cases h)), (RoundIn.depth HR.out).mono ?_⟩
        rintro e W3 ⟨hk3, (⟨rfl, hJ3⟩ | ⟨rfl, hJx3⟩)⟩
        · gi_wp2
          go_roundw
          case rel => exact ⟨m + 1, m + 1, pre ++ [s.extract a m], by go_num, by go_num, Nat.le_refl _, hlt, by simp, HP.out, hk3.boxed hd1 (.inl rfl), hk3.boxed hd2 (.inr rfl), hJ3⟩
          case measure => simp [intOf]; omega
        · gi_wp2
          refine bodyPost_ret (results_none rfl _ _ _) rfl ?_
          exact ⟨⟨_, rfl⟩, _, .inr ⟨pre ++ [s.extract a m], ⟨_, HP.out.symm⟩, hJx3⟩⟩
      | false =>
        have HC : Hid (∀ w, Calls Tryd.prog k #[.int .u8 (s[m].toNat : Int)] w fun e w' => e = .returned (.bool false) ∧ w = w') := fun w => by have := hcut s[m] w; rwa [hpc] at this
        have HK := Lib.hid hpc; clear hpc
        gi_wp2
        refine wpIn_wide.2 ?_
        go_quiet ((exact still_call (HC.out _)))
        have hno1 := none_next p s.data.toList a m ham (by simpa using hlt) hno HK.out
        have hJd := hJ _ _ _ _ _ hJs (Turned.drewN _ wr nq) (fun j h => .inl h)
        have hk3 := (Kept.drewN (fun j => j = b1 ∨ j = b2) wr nq)
        have hd1 := hk3.boxed hr1 (.inl rfl)
        have hd2 := hk3.boxed hr2 (.inr rfl)
        have HP := Lib.hid hp
        have HN := Lib.hid hno1
        clear hp hno hno1 hk3
        gi_wp2
        go_roundw
        case rel => exact ⟨a, m + 1, pre, rfl, by go_num, by omega, hlt, HN.out, HP.out, hd1, hd2, hJd⟩
        case measure => simp [intOf]; omega
    · obtain rfl : m = s.size := by omega
      have hno1 : ∀ c ∈ s.data.toList.drop a, p c = false := fun c hc => hno c (by rw [take_rest]; exact hc)
      have hpx : (pieces p s.data.toList).map txt = pre ++ [s.extract a s.size] := by
        rw [hp, pieces_none p _ hno1, extract_txt, take_rest]; rfl
      have hR0 := hY _ pre (s.extract a s.size) _ hJs (by rw [hpx]; exact List.prefix_refl _)
      obtain ⟨fn, tmps, assign, body, hy, hR⟩ := hR0
      have HP := Lib.hid hpx
      have HR := Lib.hid hR
      clear hpx hp hno hno1 hR
      gi_wp2
      refine ⟨(fun h => (by cases h)), (RoundIn.depth HR.out).mono ?_⟩
      rintro e W3 ⟨hk3, (⟨rfl, hJ3⟩ | ⟨rfl, hJx3⟩)⟩
      · gi_wp2
        go_end0
        exact ⟨⟨_, rfl⟩, _, .inl (by rw [HP.out]; exact hJ3)⟩
      · gi_wp2
        go_end0
        exact ⟨⟨_, rfl⟩, _, .inr ⟨pre ++ [s.extract a s.size], by rw [HP.out]; exact List.prefix_refl _, hJx3⟩⟩

end Go.Proofs.YtldddecaeloohaaDoor
