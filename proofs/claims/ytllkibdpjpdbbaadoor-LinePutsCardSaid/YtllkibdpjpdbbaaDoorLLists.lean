/-
  What lists tells: each list with what is behind its line, as far as Take does not err. For every text.
-/
import Derived.RangeFuncNested
import Derived.RangeFuncBound
import Derived.RangeFuncCalls
import Derived.RangeFuncLeaves
import Derived.Shelf.Abstract
import Derived.Shelf.RegionOpen
import Derived.WalkKit
import Derived.OwnWalkIn
import Derived.TacticsInMore
import Derived.LoopNIn
import Derived.LoopIn
import Derived.WalkSpells
import Derived.Outline
import Derived.Lib.Hide
import Derived.Deep.QuietTactic
import Derived.BigQuiet
import Derived.Test.YtllkibdpjpdbbaaDoorLTake
namespace Go.Proofs.YtllkibdpjpdbbaaDoor
open Go.RowKit Go.Shelf
attribute [local go_sem] Oper.semAt_some


theorem cell_at {W : World} {b : Nat} {cs : Array Value} {t : TypeId} {fz : Nat × Nat} {k : Nat} {v : Value} (h : W.heap[b]? = some (.cells cs t fz)) (hk : cs[k]? = some v) : W.cell? ⟨b, k, none⟩ = some v := by
  simp [World.cell?, h, hk]

/-- The value reads as the texts, out of a block of texts that was laid at n or behind, and is none of X. -/
def FreshL (W : World) (n : Nat) (X : Nat → Prop) (v : Value) (xs : List (List UInt8)) : Prop :=
  ∃ o c, v = .slice o xs.length c ∧ ∀ j t, xs[j]? = some t → ∃ b f cs fz, o = some ⟨b, f, none⟩ ∧ n ≤ b ∧ ¬ X b ∧ xs.length ≤ c ∧ W.heap[b]? = some (.cells cs 9 fz) ∧ cs[f + j]? = some (.string (txt t))
theorem FreshL.step {W W' : World} {n n' : Nat} {X X' Y : Nat → Prop} {v : Value} {xs : List (List UInt8)} (h : FreshL W n X v xs) (hT : Turned Y W W') (hn : n' ≤ n) (hY : ∀ k, Y k → X k ∨ k < n ∨ W.heap.size ≤ k) (hX' : ∀ k, X' k → X k ∨ k < n ∨ W.heap.size ≤ k) : FreshL W' n' X' v xs := by
  obtain ⟨o, c, hv, hx⟩ := h
  refine ⟨o, c, hv, fun j t hj => ?_⟩
  obtain ⟨b, f, cs, fz, ho, hnb, hnx, hc, hb, hcs⟩ := hx j t hj
  have hlt : b < W.heap.size := (Array.getElem?_eq_some_iff.1 hb).1
  refine ⟨b, f, cs, fz, ho, by omega, ?_, hc, (hT.block b hlt ?_).trans hb, hcs⟩
  · intro h
    rcases hX' b h with h | h | h
    · exact hnx h
    · omega
    · omega
  · intro h
    rcases hY b h with h | h | h
    · exact hnx h
    · omega
    · omega
/-- It reads so behind the growing of a row of another kind. -/
theorem FreshL.grown {W W' : World} {n : Nat} {X : Nat → Prop} {v u : Value} {xs : List (List UInt8)} {base : Nat} {e : TypeId} {size k : Nat} {us : List Value} (h : FreshL W n X v xs) (hrow : W.ownsRow base e size u k us) (he : 9 ≠ e) (hg : W.grownBy W' u.ownBlock) : FreshL W' n X v xs := by
  obtain ⟨o, c, hv, hx⟩ := h
  refine ⟨o, c, hv, fun j t hj => ?_⟩
  obtain ⟨b, f, cs, fz, ho, hnb, hnx, hc, hb, hcs⟩ := hx j t hj
  have hlt : b < W.heap.size := (Array.getElem?_eq_some_iff.1 hb).1
  refine ⟨b, f, cs, fz, ho, hnb, hnx, hc, (hg.block b hlt ?_).trans hb, hcs⟩
  intro e'
  rcases hrow.2 with ⟨rfl, _⟩ | ⟨g, cap, cur, rfl, _, hgg, _⟩
  · simp [Value.ownBlock] at e'
  · obtain rfl : b = g := by simpa [Value.ownBlock] using e'
    rw [hgg] at hb
    cases hb
    exact he rfl
theorem FreshL.owns {W : World} {base n : Nat} {X : Nat → Prop} {v : Value} {xs : List (List UInt8)} (h : W.ownsRow base 9 1 v xs.length ((xs.map txt).map Value.string)) (hn : n ≤ base) (hX : ∀ k, X k → k < base) : FreshL W n X v xs := by
  rcases h.2 with ⟨hv, h0⟩ | ⟨g, cap, cur, hv, hb, hg, hk, hm, hs, ht⟩
  · have : xs = [] := List.eq_nil_of_length_eq_zero h0
    subst this
    exact ⟨none, 0, hv, by simp⟩
  · refine ⟨some ⟨g, 0, none⟩, cap, hv, fun j x hj => ⟨g, 0, cur, _, rfl, by omega, fun h => ?_, hk, hg, ?_⟩⟩
    · have := hX g h; omega
    · have hj' : j < xs.length := (List.getElem?_eq_some_iff.1 hj).1
      have e1 : ((xs.map txt).map Value.string)[j]? = some (.string (txt x)) := by rw [List.getElem?_map, List.getElem?_map, hj]; rfl
      rw [← ht, List.getElem?_take_of_lt (by omega)] at e1
      rw [Nat.zero_add, ← Array.getElem?_toList]; exact e1

/-- A list and what is behind its line, as they are told. -/
def ListR : Nat → (Nat → Prop) → (List (List UInt8) × List UInt8) → Array Value → World → Prop := fun n X x vs W =>
  ∃ v, vs = #[v, .string (txt x.2)] ∧ FreshL W n X v x.1
theorem listR_abides : AbidesR ListR := by
  rintro n X X' Y x vs W W' ⟨v, hv, hx⟩ hT hY hX'
  exact ⟨v, hv, hx.step hT (Nat.le_refl _) (fun k h => (hY k h).elim .inl (fun h => .inr (.inl h))) (fun k h => (hX' k h).elim .inl (fun h => .inr (.inl h)))⟩

def strLen : Value → Nat
  | .string s => s.size
  | _ => 0
theorem err_code {l : List UInt8} {c : Int} (h : TakeErr l c) : (c != 0) = true ∧ (∀ xs r, takeOf l ≠ .ok xs r) := by
  rcases h with ⟨h, rfl⟩ | ⟨h, rfl⟩ | ⟨h, rfl⟩
  · exact ⟨by decide, fun xs r e => by rw [h] at e; cases e⟩
  · exact ⟨by decide, fun xs r e => by rw [h] at e; cases e⟩
  · exact ⟨by decide, fun xs r e => by rw [h] at e; cases e⟩

set_option maxRecDepth 100000 in
set_option maxHeartbeats 2000000 in
theorem lists1_tells (n : Nat) (s : ByteArray) (hs : s.size ≤ maxLen) (b1 : Nat) (w : World) (hb1 : Boxed w b1 9 (.string s)) :
    Tells n Tryd.prog 48 #[.pointer (some ⟨b1, 0, none⟩)] ListR (fun j => j = b1) (scanOf s.data.toList) w := by
  intro l J Jx W hW hJ hJx hY h0
  have hB1 := hW.boxed hb1 rfl
  have hbl := hB1.lt
  refine callsIn_of_wp Tryd.func48 rfl trivial ?_ rfl
  simp only [Tryd.ntmps48, List.size_toArray, List.length_cons, List.length_nil, Nat.reduceAdd, Nat.reduceSub, Array.replicate_succ, Array.replicate_zero, List.push_toArray, List.append_toArray, List.nil_append, List.cons_append]
  have hc1 := hB1.cell
  gi_wp2
  gi_loopw [3] (fun st wr => ∃ (r : ByteArray) (pre : List (List (List UInt8) × List UInt8)), st = .string r ∧ r.size ≤ s.size ∧ Hid (scanOf s.data.toList = pre ++ scanOf r.data.toList) ∧ W.heap.size ≤ wr.heap.size ∧ J (fun j => j = b1) pre wr)
    (fun st _ => strLen st)
  case atStart => exact ⟨s, [], rfl, Nat.le_refl _, by show _ = _; simp, Nat.le_refl _, h0⟩
  case round =>
    obtain ⟨r, pre, rfl, hrs, HP, hwz, hJs⟩ := hrel
    have HT := Lib.hid (take_any r (Nat.le_trans hrs hs))
    unfold TakePost at HT
    gi_wp2
    refine ⟨trivial, (fun h => (by cases h)), (callsIn_wide.2 (HT.out _)).mono ?_⟩
    rintro e w1 ⟨hbq, (⟨c, he, rfl⟩ | ⟨xs, rr, v, ht, rfl, hown⟩)⟩
    · obtain ⟨ec, hno⟩ := err_code he
      have hJ1 := hJ _ _ _ _ _ hJs (turned_of_below hbq) (fun k h => .inl h)
      have HE : Hid (scanOf s.data.toList = pre) := by show _ = _; rw [HP.out, scan_not hno, List.append_nil]
      clear hno he HT
      gi_wp2
      refine ⟨fun _ h => (by cases h), ?_⟩
      gi_wp2
      refine bodyPost_ret (results_none rfl _ _ _) rfl ?_
      exact ⟨⟨_, rfl⟩, _, .inl (by rw [HE.out]; exact hJ1)⟩
    · have hJ1 := hJ _ _ _ _ _ hJs (turned_of_below hbq) (fun k h => .inl h)
      have hpx : scanOf s.data.toList = (pre ++ [(xs, rr)]) ++ scanOf rr := by rw [HP.out, scan_ok ht]; simp
      have hR0 := hY _ pre (xs, rr) #[v, .string (txt rr)] w1 hJ1 ⟨_, hpx.symm⟩ ⟨v, rfl, FreshL.owns hown hwz (by rintro k rfl; omega)⟩
      have hless := take_less ht
      rw [size_list] at hless
      obtain ⟨fn, tmps, assign, body, hy, hR⟩ := hR0
      have HPX := Lib.hid hpx
      have HR := Lib.hid hR
      have hzq := hbq.size
      clear hpx hR HP HT ht hown
      gi_wp2
      refine ⟨(fun h => (by cases h)), (RoundIn.depth HR.out).mono ?_⟩
      rintro e W3 ⟨hk3, (⟨rfl, hJ3⟩ | ⟨rfl, hJx3⟩)⟩
      · gi_wp2
        go_roundw
        case rel => exact ⟨txt rr, _, rfl, by rw [txt_size]; omega, by show _ = _; rw [txt_data]; exact HPX.out, by have := hk3.size; omega, hJ3⟩
        case measure => simp only [strLen, txt_size]; omega
      · gi_wp2
        refine bodyPost_ret (results_none rfl _ _ _) rfl ?_
        exact ⟨⟨_, rfl⟩, _, .inr ⟨pre ++ [(xs, rr)], ⟨_, HPX.out.symm⟩, hJx3⟩⟩

end Go.Proofs.YtllkibdpjpdbbaaDoor
