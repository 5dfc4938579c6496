/-
  What strings.SplitSeq tells, at a blank: the pieces of a text between its blanks. For every text.
-/
import Derived.RangeFuncNested
import Derived.RangeFuncBound
import Derived.RangeFuncCalls
import Derived.RangeFuncLeaves
import Derived.Shelf.Abstract
import Derived.Shelf.RegionOpen
import Derived.WalkKit
import Derived.OwnWalkIn
import Derived.TacticsInMore
import Derived.LoopNIn
import Derived.LoopIn
import Derived.WalkSpells
import Derived.Outline
import Derived.Lib.Hide
import Derived.Deep.QuietTactic
import Derived.BigQuiet
import Derived.Test.YtllkibdpjpdbbaaDoorLIter
import Derived.Test.YtllkibdpjpdbbaaDoorLLib
namespace Go.Proofs.YtllkibdpjpdbbaaDoor
open Go.RowKit Go.Shelf
attribute [local go_sem] Oper.semAt_some


theorem sp_only {c : UInt8} : sp32 c = true ↔ c = 32 := by
  simp only [sp32, decide_eq_true_eq]
  exact ⟨fun h => UInt8.toNat_inj.1 (by rw [h]; rfl), fun h => by rw [h]; rfl⟩
theorem index_sp_none {l : List UInt8} (h : Lib.indexByte l 32 = -1) : pieces sp32 l = [l] := by
  refine pieces_none sp32 l fun c hc => ?_
  cases hs : sp32 c with
  | false => rfl
  | true =>
    obtain ⟨i, hi⟩ := List.mem_iff_getElem?.1 hc
    have := Lib.indexByte_none h i
    rw [hi, sp_only.1 hs] at this
    exact absurd rfl this
theorem index_sp_some {l : List UInt8} {o : Nat} (h : Lib.indexByte l 32 = o) : o < l.length ∧ pieces sp32 l = l.take o :: pieces sp32 (l.drop (o + 1)) := by
  obtain ⟨h1, h2⟩ := Lib.indexByte_some h
  have hlt : o < l.length := (List.getElem?_eq_some_iff.1 h1).1
  refine ⟨hlt, ?_⟩
  have hc : sp32 l[o] = true := by rw [List.getElem?_eq_getElem hlt] at h1; exact sp_only.2 (Option.some.inj h1)
  have := cut_at sp32 l 0 o (Nat.zero_le _) hlt (by
    intro c hc
    rw [List.drop_zero, Nat.sub_zero] at hc
    cases hs : sp32 c with
    | false => rfl
    | true =>
      obtain ⟨i, hi⟩ := List.mem_iff_getElem?.1 hc
      have hio : i < o := by
        have := (List.getElem?_eq_some_iff.1 hi).1
        rw [List.length_take] at this; omega
      rw [List.getElem?_take_of_lt hio, sp_only.1 hs] at hi
      exact absurd hi (h2 i hio)) hc
  simpa using this

set_option maxHeartbeats 400000 in
theorem index_any (s : ByteArray) (w : World) : Calls Tryd.prog 78 #[.string s, .string ⟨#[32]⟩] w fun e w' => e = .returned (.int .i64 (Lib.indexByte s.data.toList 32)) ∧ w' = w := by
  go_enter Tryd.func78, Tryd.ntmps78
  go_wp2_with (go_at_call 54; refine (stringslite_Index_one _ _ _).mono ?_; rintro e w' ⟨rfl, rfl⟩)
  go_ret
  exact ⟨rfl, rfl⟩
theorem index_is {s : ByteArray} {i : Int} (h : Lib.indexByte s.data.toList 32 = i) (w : World) : Calls Tryd.prog 78 #[.string s, .string ⟨#[32]⟩] w fun e w' => e = .returned (.int .i64 i) ∧ w' = w := by
  have := index_any s w; rwa [h] at this

/-- A text is told as itself. -/
def TextR : Nat → (Nat → Prop) → ByteArray → Array Value → World → Prop := fun _ _ x vs _ => vs = #[.string x]
theorem textR_abides : AbidesR TextR := fun _ _ _ _ _ _ _ _ h _ _ _ => h

/-- The length of the text in a box. -/
def strAt (w : World) (b : Nat) : Nat := match w.cell? ⟨b, 0, none⟩ with
  | some (.string r) => r.size
  | _ => 0
theorem strAt_is {w : World} {b : Nat} {t : TypeId} {r : ByteArray} (h : Boxed w b t (.string r)) : strAt w b = r.size := by unfold strAt; rw [h.cell]

theorem boxed_other {W : World} {B b : Nat} {t : TypeId} {v : Value} (h : Boxed W B t v) (v' : Value) (hne : B ≠ b) : Boxed (W.setCell ⟨b, 0, none⟩ v') B t v :=
  h.kept (grownBy_setCell' W b v') (by intro e; exact hne (Option.some.inj e))

set_option maxRecDepth 100000 in
set_option maxHeartbeats 2000000 in
theorem split1_tells (n : Nat) (s : ByteArray) (hs : s.size ≤ maxLen) (bp bs bv : Nat) (hps : bp ≠ bs) (hvs : bv ≠ bs) (w : World)
    (hbp : Boxed w bp 9 (.string ⟨#[32]⟩)) (hbs : Boxed w bs 9 (.string s)) (hbv : Boxed w bv 3 (.int .i64 0)) :
    Tells n Tryd.prog 77 #[.pointer (some ⟨bp, 0, none⟩), .pointer (some ⟨bs, 0, none⟩), .pointer (some ⟨bv, 0, none⟩)] TextR (fun j => j = bp ∨ j = bs ∨ j = bv) ((pieces sp32 s.data.toList).map txt) w := by
  intro l J Jx W hW hJ hJx hY h0
  have hB1 := hW.boxed hbp (.inl rfl)
  have hB2 := hW.boxed hbs (.inr (.inl rfl))
  have hB3 := hW.boxed hbv (.inr (.inr rfl))
  unfold maxLen at hs
  refine callsIn_of_wp Tryd.func77 rfl trivial ?_ rfl
  simp only [Tryd.ntmps77, List.size_toArray, List.length_cons, List.length_nil, Nat.reduceAdd, Nat.reduceSub, Array.replicate_succ, Array.replicate_zero, List.push_toArray, List.append_toArray, List.nil_append, List.cons_append]
  have hc1 := hB1.cell
  have hc2 := hB2.cell
  have hc3 := hB3.cell
  gi_wp2
  gi_loopw [7] (fun _ wr => ∃ (r : ByteArray) (pre : List ByteArray), r.size ≤ s.size ∧ (pieces sp32 s.data.toList).map txt = pre ++ (pieces sp32 r.data.toList).map txt ∧
      Boxed wr bp 9 (.string ⟨#[32]⟩) ∧ Boxed wr bs 9 (.string r) ∧ Boxed wr bv 3 (.int .i64 0) ∧ J (fun j => j = bp ∨ j = bs ∨ j = bv) pre wr)
    (fun _ wr => strAt wr bs)
  case atStart => exact ⟨s, [], Nat.le_refl _, by simp, hB1, hB2, hB3, h0⟩
  case round =>
    obtain ⟨r, pre, hrs, hp, hr1, hr2, hr3, hJs⟩ := hrel
    have hm := strAt_is hr2
    have hc4 := hr1.cell
    have hc5 := hr2.cell
    have hc6 := hr3.cell
    have hge := Lib.indexByte_ge r.data.toList 32
    rcases Int.lt_or_le (Lib.indexByte r.data.toList 32) 0 with hneg | hpos
    · have hi : Lib.indexByte r.data.toList 32 = -1 := by omega
      have HI := Lib.hid (index_is hi)
      have hpx : (pieces sp32 s.data.toList).map txt = pre ++ [r] := by rw [hp, index_sp_none hi]; simp [txt_toList]
      have hR0 := hY _ pre r #[.string r] _ hJs (by rw [hpx]; exact List.prefix_refl _) rfl
      obtain ⟨fn, tmps, assign, body, hy, hR⟩ := hR0
      have HP := Lib.hid hpx
      have HR := Lib.hid hR
      clear hpx hp hR hi hneg hge
      gi_wp2
      refine ⟨trivial, (fun h => (by cases h)), (callsIn_wide.2 (HI.out _)).mono ?_⟩
      rintro e w' ⟨rfl, rfl⟩
      gi_wp2
      refine ⟨(fun h => (by cases h)), (RoundIn.depth HR.out).mono ?_⟩
      rintro e W3 ⟨hk3, (⟨rfl, hJ3⟩ | ⟨rfl, hJx3⟩)⟩
      · gi_wp2
        go_end0
        exact ⟨⟨_, rfl⟩, _, .inl (by rw [HP.out]; exact hJ3)⟩
      · gi_wp2
        go_end0
        exact ⟨⟨_, rfl⟩, _, .inr ⟨pre ++ [r], by rw [HP.out]; exact List.prefix_refl _, hJx3⟩⟩
    · obtain ⟨o, ho⟩ : ∃ o : Nat, Lib.indexByte r.data.toList 32 = o := ⟨_, (Int.toNat_of_nonneg hpos).symm⟩
      have HI := Lib.hid (index_is ho)
      obtain ⟨hol, hcut⟩ := index_sp_some ho
      rw [size_list] at hol
      have hA : r.extract 0 o = txt (r.data.toList.take o) := by rw [extract_txt, List.drop_zero, Nat.sub_zero]
      have hB : (r.extract (o + 1) r.size).data.toList = r.data.toList.drop (o + 1) := Lib.extract_to_end r (o + 1)
      have hBz : (r.extract (o + 1) r.size).size = r.size - (o + 1) := by rw [ByteArray.size_extract]; omega
      have hpx : (pieces sp32 s.data.toList).map txt = (pre ++ [r.extract 0 o]) ++ (pieces sp32 (r.extract (o + 1) r.size).data.toList).map txt := by
        rw [hp, hcut, hA, hB]; simp
      have hR0 := hY _ pre (r.extract 0 o) #[.string (r.extract 0 o)] _ hJs ⟨_, hpx.symm⟩ rfl
      obtain ⟨fn, tmps, assign, body, hy, hR⟩ := hR0
      have HP := Lib.hid hpx
      have HR := Lib.hid hR
      have ho1 : o ≤ r.size := by omega
      have ho2 : o + 1 ≤ r.size := by omega
      clear hpx hp hR hA hB hcut ho hpos hge
      gi_wp2
      refine ⟨trivial, (fun h => (by cases h)), (callsIn_wide.2 (HI.out _)).mono ?_⟩
      rintro e w' ⟨rfl, rfl⟩
      gi_wp2
      refine ⟨(fun h => (by cases h)), (RoundIn.depth HR.out).mono ?_⟩
      rintro e W3 ⟨hk3, (⟨rfl, hJ3⟩ | ⟨rfl, hJx3⟩)⟩
      · have hq1 := hk3.boxed hr1 (.inl rfl)
        have hq2 := hk3.boxed hr2 (.inr (.inl rfl))
        have hq3 := hk3.boxed hr3 (.inr (.inr rfl))
        have hc7 := hq1.cell
        have hc8 := hq2.cell
        have hf8 := hq2.frozen
        have hJ4 := hJ _ _ _ _ _ hJ3 (Turned.setCell W3 ⟨bs, 0, none⟩ (.string (r.extract (o + 1) r.size)) (.inr (.inl rfl))) (fun k h => .inl h)
        have hz := strAt_is (hq2.set (.string (r.extract (o + 1) r.size)))
        have HZ := Lib.hid hz
        have HM := Lib.hid hm
        clear hz hm
        gi_wp2
        go_roundw
        case rel => exact ⟨_, _, by omega, HP.out, boxed_other hq1 _ hps, hq2.set _, boxed_other hq3 _ hvs, hJ4⟩
        case measure => rw [HZ.out, HM.out]; omega
      · gi_wp2
        refine bodyPost_ret (results_none rfl _ _ _) rfl ?_
        exact ⟨⟨_, rfl⟩, _, .inr ⟨pre ++ [r.extract 0 o], ⟨_, HP.out.symm⟩, hJx3⟩⟩

end Go.Proofs.YtllkibdpjpdbbaaDoor
