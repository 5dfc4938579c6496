/-
  What strings.SplitSeq tells, at whatever part that has a byte. For texts of at most 10 million bytes. No condition.
-/
import Derived.RangeFuncNested
import Derived.Test.YtbngoodjgijmgaaGreatDoorNLeaf
import Derived.Test.YtbngoodjgijmgaaGreatDoorNI
namespace Go.Proofs.YtbngoodjgijmgaaGreatDoor
open Go.RowKit Go.Shelf
attribute [local go_sem] Oper.semAt_some

set_option maxHeartbeats 400000 in
theorem splitSeq_any (s a : ByteArray) (w : World) : Calls Tryz.prog 124 #[.string s, .string a] w fun e w' =>
    e = .returned (.func (.func 198) #[] #[.pointer (some ⟨w.heap.size + 1, 0, none⟩), .pointer (some ⟨w.heap.size, 0, none⟩), .pointer (some ⟨w.heap.size + 1 + 1, 0, none⟩)]) ∧
    ((w.alloc (.cells #[.string s] 9)).alloc (.cells #[.string a] 9)).alloc (.cells #[.int .i64 0] 3) = w' := by
  go_enter Tryz.func124, Tryz.ntmps124
  go_wp2
  go_ret
  exact ⟨rfl, rfl⟩

/-- The length of the text in a box. -/
def strAt (w : World) (b : Nat) : Nat := match w.cell? ⟨b, 0, none⟩ with
  | some (.string r) => r.size
  | _ => 0
theorem strAt_is {w : World} {b : Nat} {t : TypeId} {r : ByteArray} (h : Boxed w b t (.string r)) : strAt w b = r.size := by unfold strAt; rw [h.cell]
theorem boxed_off {W : World} {B b : Nat} {t : TypeId} {v : Value} (h : Boxed W B t v) (v' : Value) (hne : B ≠ b) : Boxed (W.setCell ⟨b, 0, none⟩ v') B t v :=
  h.kept (grownBy_setCell' W b v') (by intro e; exact hne (Option.some.inj e))

set_option maxRecDepth 100000 in
set_option maxHeartbeats 2000000 in
theorem split_tells (n : Nat) (a s : ByteArray) (ha : a.data.toList ≠ []) (hs : s.size ≤ 10000000) (has : a.size ≤ 10000000) (n₀ bp bs bv : Nat) (hps : bp ≠ bs) (hvs : bv ≠ bs) (w : World)
    (hst : ∀ W, Kept (fun k => k < n₀) w W → Std W) (hbp : Boxed w bp 9 (.string a)) (hbs : Boxed w bs 9 (.string s)) (hbv : Boxed w bv 3 (.int .i64 0)) :
    TellsY n Tryz.prog 198 #[.pointer (some ⟨bp, 0, none⟩), .pointer (some ⟨bs, 0, none⟩), .pointer (some ⟨bv, 0, none⟩)] encT (fun k => k < n₀) (fun j => j = bp ∨ j = bs ∨ j = bv) ((spl a.data.toList s.data.toList).map txt) w := by
  intro l J Jx W hW hJ hJx hKY hY h0
  have hB1 := hW.boxed hbp (.inl rfl)
  have hB2 := hW.boxed hbs (.inr (.inl rfl))
  have hB3 := hW.boxed hbv (.inr (.inr rfl))
  have hap : 0 < a.size := by rw [← size_list]; exact List.length_pos_iff.2 ha
  have HA := Lib.hid ha
  clear ha
  refine callsIn_of_wp Tryz.func198 rfl trivial ?_ rfl
  simp only [Tryz.ntmps198, List.size_toArray, List.length_cons, List.length_nil, Nat.reduceAdd, Nat.reduceSub, Array.replicate_succ, Array.replicate_zero, List.push_toArray, List.append_toArray, List.nil_append, List.cons_append]
  have hc1 := hB1.cell
  have hc2 := hB2.cell
  have hc3 := hB3.cell
  have e0 : ((a.size : Int) == 0) = false := by rw [beq_eq_false_iff_ne]; omega
  gi_wp2
  gi_loopw [7] (fun _ wr => ∃ (r : ByteArray) (pre : List ByteArray), r.size ≤ s.size ∧ (spl a.data.toList s.data.toList).map txt = pre ++ (spl a.data.toList r.data.toList).map txt ∧
      Boxed wr bp 9 (.string a) ∧ Boxed wr bs 9 (.string r) ∧ Boxed wr bv 3 (.int .i64 0) ∧ J (fun j => j = bp ∨ j = bs ∨ j = bv) pre wr)
    (fun _ wr => strAt wr bs)
  case atStart => exact ⟨s, [], Nat.le_refl _, by simp, hB1, hB2, hB3, h0⟩
  case round =>
    obtain ⟨r, pre, hrs, hp, hr1, hr2, hr3, hJs⟩ := hrel
    have hm := strAt_is hr2
    have hc4 := hr1.cell
    have hc5 := hr2.cell
    have hc6 := hr3.cell
    obtain ⟨mx, hmx⟩ := (hst _ (hKY _ _ _ hJs)).mx
    have HI := libIndex r a mx wr (by omega) hmx
    rcases Lib.index_spec r.data.toList a.data.toList with ⟨hi, _⟩ | ⟨o, ho, _, _, _⟩
    · rw [hi] at HI
      have HIx := Lib.hid HI
      have hpx : (spl a.data.toList s.data.toList).map txt = pre ++ [r] := by rw [hp, spl_none (by omega)]; simp [txt_toList]
      have hR0 := hY _ pre r _ hJs (by rw [hpx]; exact List.prefix_refl _)
      obtain ⟨fn, tmps, assign, body, hy, hR⟩ := hR0
      have HP := Lib.hid hpx
      have HR := Lib.hid hR
      clear hpx hp hR hi HI hmx
      gi_wp2
      refine ⟨trivial, (fun h => (by cases h)), (callsIn_wide.2 HIx.out).mono ?_⟩
      rintro e w' ⟨rfl, rfl⟩
      gi_wp2
      refine ⟨(fun h => (by cases h)), (RoundIn.depth HR.out).mono ?_⟩
      rintro e W3 ⟨hk3, (⟨rfl, hJ3⟩ | ⟨rfl, hJx3⟩)⟩
      · gi_wp2
        go_end0
        exact ⟨⟨_, rfl⟩, _, .inl (by rw [HP.out]; exact hJ3)⟩
      · gi_wp2
        go_end0
        exact ⟨⟨_, rfl⟩, _, .inr ⟨pre ++ [r], by rw [HP.out]; exact List.prefix_refl _, hJx3⟩⟩
    · have hroom := Lib.index_room r.data.toList a.data.toList (by omega)
      rw [ho, size_list, size_list] at hroom
      rw [ho] at HI
      have HIx := Lib.hid HI
      have hcut := spl_some HA.out ho
      rw [size_list] at hcut
      have hA : r.extract 0 o = txt (r.data.toList.take o) := by rw [extract_txt, List.drop_zero, Nat.sub_zero]
      have hB : (r.extract (o + a.size) r.size).data.toList = r.data.toList.drop (o + a.size) := Lib.extract_to_end r (o + a.size)
      have hBz : (r.extract (o + a.size) r.size).size = r.size - (o + a.size) := by rw [ByteArray.size_extract]; omega
      have hpx : (spl a.data.toList s.data.toList).map txt = (pre ++ [r.extract 0 o]) ++ (spl a.data.toList (r.extract (o + a.size) r.size).data.toList).map txt := by
        rw [hp, hcut, hA, hB]; simp
      have hR0 := hY _ pre (r.extract 0 o) _ hJs ⟨_, hpx.symm⟩
      obtain ⟨fn, tmps, assign, body, hy, hR⟩ := hR0
      have HP := Lib.hid hpx
      have HR := Lib.hid hR
      have ho1 : o ≤ r.size := by omega
      have ho2 : o + a.size ≤ r.size := by omega
      clear hpx hp hR hA hB hcut ho hmx HI
      gi_wp2
      refine ⟨trivial, (fun h => (by cases h)), (callsIn_wide.2 HIx.out).mono ?_⟩
      rintro e w' ⟨rfl, rfl⟩
      gi_wp2
      refine ⟨(fun h => (by cases h)), (RoundIn.depth HR.out).mono ?_⟩
      rintro e W3 ⟨hk3, (⟨rfl, hJ3⟩ | ⟨rfl, hJx3⟩)⟩
      · have hq1 := hk3.boxed hr1 (.inl rfl)
        have hq2 := hk3.boxed hr2 (.inr (.inl rfl))
        have hq3 := hk3.boxed hr3 (.inr (.inr rfl))
        have hc7 := hq1.cell
        have hc8 := hq2.cell
        have hf8 := hq2.frozen
        have hJ4 := hJ _ _ _ _ _ hJ3 (Turned.setCell W3 ⟨bs, 0, none⟩ (.string (r.extract (o + a.size) r.size)) (.inr (.inl rfl))) (fun k h => .inl h)
        have hz := strAt_is (hq2.set (.string (r.extract (o + a.size) r.size)))
        have HZ := Lib.hid hz
        have HM := Lib.hid hm
        clear hz hm
        gi_wp2
        go_roundw
        case rel => exact ⟨_, _, by omega, HP.out, boxed_off hq1 _ hps, hq2.set _, boxed_off hq3 _ hvs, hJ4⟩
        case measure => rw [HZ.out, HM.out]; omega
      · gi_wp2
        refine bodyPost_ret (results_none rfl _ _ _) rfl ?_
        exact ⟨⟨_, rfl⟩, _, .inr ⟨pre ++ [r.extract 0 o], ⟨_, HP.out.symm⟩, hJx3⟩⟩
end Go.Proofs.YtbngoodjgijmgaaGreatDoor
