/-
  The functions that package call hands to each and only: what they answer of a word, as long as what they have captured lies where it lay. For texts of at most 10 million bytes. No condition.
-/
import Derived.Test.YtbngoodjgijmgaaGreatDoorNLeaf
import Derived.Test.YtbngoodjgijmgaaGreatDoorNEach
import Derived.Test.YtbngoodjgijmgaaGreatDoorNI
import Derived.Test.YtbngoodjgijmgaaGreatDoorNOnce
import Derived.Test.YtbngoodjgijmgaaGreatDoorHG
namespace Go.Proofs.YtbngoodjgijmgaaGreatDoor
open Go.RowKit Go.Shelf

theorem arg_cell {w : World} {B : Nat} {o : Option Addr} {n c : Nat} {xs : List ByteArray} (hr : ReadsO w B (.slice o n c) xs) (k : Nat) (hk : k < xs.length) : n = xs.length ∧ ∃ b f, o = some ⟨b, f, none⟩ ∧ n ≤ c ∧ w.cell? ⟨b, f + k, none⟩ = some (.string (xs.getD k ⟨#[]⟩)) := by
  obtain ⟨o', c', hv, hx⟩ := hr
  cases hv
  obtain ⟨b, f, ho, _, hc, hcell⟩ := hx k xs[k] (List.getElem?_eq_getElem hk)
  refine ⟨rfl, b, f, ho, hc, ?_⟩
  rw [hcell]
  simp [List.getD, hk]

set_option maxHeartbeats 1000000 in
theorem cls_subst (x : ByteArray) (hx : x.size ≤ 10000000) (o : Option Addr) (n c : Nat) (xs : List ByteArray) (hn : 2 ≤ xs.length) (hz : ∀ y ∈ xs, y.size ≤ 10000000) (b B : Nat) (w : World) (hb : Boxed w b 99 (.slice o n c)) (hr : ReadsO w B (.slice o n c) xs) :
    Calls Tryz.prog 131 #[.string x, .pointer (some ⟨b, 0, none⟩)] w fun e w' => e = .returned (.string (txt (substL (xs.getD 0 ⟨#[]⟩).data.toList (xs.getD 1 ⟨#[]⟩).data.toList x.data.toList))) ∧ ∃ m, w' = w.drewN m := by
  obtain ⟨hnl, b0, f0, rfl, hnc, h0⟩ := arg_cell hr 0 (by omega)
  obtain ⟨_, b1, f1, e1, _, h1⟩ := arg_cell hr 1 (by omega)
  cases e1
  have hm : ∀ k, (xs.getD k ⟨#[]⟩).size ≤ 10000000 := fun k => by
    unfold List.getD
    cases hk : xs[k]? with
    | none => exact Nat.zero_le _
    | some y => exact hz y (List.mem_of_getElem? hk)
  have hS : ∀ w, Calls Tryz.prog 120 #[.string (xs.getD 0 ⟨#[]⟩), .string (xs.getD 1 ⟨#[]⟩), .string x] w (FillPost (substL (xs.getD 0 ⟨#[]⟩).data.toList (xs.getD 1 ⟨#[]⟩).data.toList x.data.toList) w) := fun w =>
    subst_any _ _ _ (by have := hm 0; omega) (by have := hm 1; omega) (by omega) w
  generalize xs.getD 0 ⟨#[]⟩ = p at *
  generalize xs.getD 1 ⟨#[]⟩ = q at *
  have HS : Hid (∀ m, Calls Tryz.prog 120 #[.string p, .string q, .string x] (w.drewN m) fun e w'' => e = .returned (.string (txt (substL p.data.toList q.data.toList x.data.toList))) ∧ ∃ j, w'' = w.drewN j) := fun m =>
    (hS (w.drewN m)).mono fun e w'' h => ⟨h.1, by obtain ⟨_, j, rfl⟩ := h; exact ⟨m + j, by rw [World.drewN_drewN]⟩⟩
  have hc := hb.cell
  have hn2 : 2 ≤ n := by omega
  rw [Nat.add_zero] at h0
  clear hr hS hm hz hnl hn
  go_enter Tryz.func131, Tryz.ntmps131
  go_wp2
  go_quiet ((exact HS.out _))
  go_wp2
  go_ret
  exact ⟨rfl, _, rfl⟩
set_option maxHeartbeats 1000000 in
theorem cls_behind (x : ByteArray) (hx : x.size ≤ 10000000) (o : Option Addr) (n c : Nat) (xs : List ByteArray) (hn : 1 ≤ xs.length) (hz : ∀ y ∈ xs, y.size ≤ 10000000) (b B : Nat) (w : World) (hb : Boxed w b 99 (.slice o n c)) (hr : ReadsO w B (.slice o n c) xs) :
    Calls Tryz.prog 140 #[.string x, .pointer (some ⟨b, 0, none⟩)] w fun e w' => e = .returned (.string (x ++ xs.getD 0 ⟨#[]⟩)) ∧ ∃ m, w' = w.drewN m := by
  obtain ⟨hnl, b0, f0, rfl, hnc, h0⟩ := arg_cell hr 0 (by omega)
  have hm : (xs.getD 0 ⟨#[]⟩).size ≤ 10000000 := by
    unfold List.getD
    cases hk : xs[0]? with
    | none => exact Nat.zero_le _
    | some y => exact hz y (List.mem_of_getElem? hk)
  generalize xs.getD 0 ⟨#[]⟩ = p at *
  have hc := hb.cell
  have hn2 : 1 ≤ n := by omega
  rw [Nat.add_zero] at h0
  clear hr hz hnl hn
  go_enter Tryz.func140, Tryz.ntmps140
  go_wp2
  go_ret
  exact ⟨rfl, 0, rfl⟩
set_option maxHeartbeats 1000000 in
theorem cls_ahead (x : ByteArray) (hx : x.size ≤ 10000000) (o : Option Addr) (n c : Nat) (xs : List ByteArray) (hn : 1 ≤ xs.length) (hz : ∀ y ∈ xs, y.size ≤ 10000000) (b B : Nat) (w : World) (hb : Boxed w b 99 (.slice o n c)) (hr : ReadsO w B (.slice o n c) xs) :
    Calls Tryz.prog 141 #[.string x, .pointer (some ⟨b, 0, none⟩)] w fun e w' => e = .returned (.string (xs.getD 0 ⟨#[]⟩ ++ x)) ∧ ∃ m, w' = w.drewN m := by
  obtain ⟨hnl, b0, f0, rfl, hnc, h0⟩ := arg_cell hr 0 (by omega)
  have hm : (xs.getD 0 ⟨#[]⟩).size ≤ 10000000 := by
    unfold List.getD
    cases hk : xs[0]? with
    | none => exact Nat.zero_le _
    | some y => exact hz y (List.mem_of_getElem? hk)
  generalize xs.getD 0 ⟨#[]⟩ = p at *
  have hc := hb.cell
  have hn2 : 1 ≤ n := by omega
  rw [Nat.add_zero] at h0
  clear hr hz hnl hn
  go_enter Tryz.func141, Tryz.ntmps141
  go_wp2
  go_ret
  exact ⟨rfl, 0, rfl⟩

/-! ### matched -/
set_option maxHeartbeats 1000000 in
theorem cls_matched (x : ByteArray) (hx : x.size ≤ 10000000) (want : Bool) (o : Option Addr) (n c : Nat) (ps : List ByteArray) (hl : ps.length ≤ 1000000000) (hz : ∀ y ∈ ps, y.size ≤ 10000000) (b1 b2 B : Nat) (w : World) (hb1 : Boxed w b1 99 (.slice o n c)) (hb2 : Boxed w b2 4 (.bool want)) (hr : ReadsO w B (.slice o n c) ps) :
    Calls Tryz.prog 174 #[.string x, .pointer (some ⟨b1, 0, none⟩), .pointer (some ⟨b2, 0, none⟩)] w fun e w' => e = .returned (.bool (anyB ps x == want)) ∧ ∃ m, w' = w.drewN m := by
  have hA := fun w hr => any_any (.slice o n c) ps x B w hr (by unfold maxLen; omega) (fun p hp => by have := hz p hp; unfold maxLen; omega) (by unfold maxLen; omega)
  have HS : Hid (∀ m, Calls Tryz.prog 175 #[.slice o n c, .string x] (w.drewN m) fun e w'' => e = .returned (.bool (anyB ps x)) ∧ ∃ j, w'' = w.drewN j) := fun m =>
    (hA (w.drewN m) hr).mono fun e w'' h => ⟨h.1, by obtain ⟨_, j, rfl⟩ := h; exact ⟨m + j, by rw [World.drewN_drewN]⟩⟩
  have hc1 := hb1.cell
  have hc2 := hb2.cell
  clear hr hA hz
  generalize anyB ps x = r at HS ⊢
  go_enter Tryz.func174, Tryz.ntmps174
  go_wp2
  go_quiet ((exact HS.out _))
  go_wp2
  go_ret
  exact ⟨rfl, _, rfl⟩
theorem any_same {a b : List ByteArray} (h : ∀ z, z ∈ a ↔ z ∈ b) (x : ByteArray) : anyB a x = anyB b x := by
  unfold anyB
  rw [Bool.eq_iff_iff, List.any_eq_true, List.any_eq_true]
  exact ⟨fun ⟨p, hp, h1⟩ => ⟨p, (h p).1 hp, h1⟩, fun ⟨p, hp, h1⟩ => ⟨p, (h p).2 hp, h1⟩⟩
theorem any_sorted (l : List BT) (x : BT) : anyB ((sortT l).map txt) (txt x) = anyL l x := by
  rw [any_same (b := l.map txt) fun z => by simp only [List.mem_map, sort_mem]]
  unfold anyB anyL oneB
  rw [List.any_map]
  simp only [Function.comp_def, txt_data]

set_option maxHeartbeats 2000000 in
theorem matched_any' (p : ByteArray) (hp : p.size ≤ 10000000) (want : Bool) (w : World) :
    Calls Tryz.prog 133 #[.string p, .bool want] w fun e w' => ∃ b1 b2 o n c, e = .returned (.func (.func 174) #[] #[.pointer (some ⟨b1, 0, none⟩), .pointer (some ⟨b2, 0, none⟩)]) ∧
      Boxed w' b1 99 (.slice o n c) ∧ Boxed w' b2 4 (.bool want) ∧ ReadsO w' w'.heap.size (.slice o n c) ((sortT (wordsT p.data.toList)).map txt) ∧ Below w.heap.size w w' := by
  have hwl := words_few p.data.toList
  rw [size_list] at hwl
  have HW := Lib.hid (words_own p (by omega))
  have HO : Hid (∀ (v : Value) (base : Nat) (W : World), base ≤ W.heap.size → W.ownsRow base 9 1 v (wordsT p.data.toList).length ((wordsT p.data.toList).map encStr) → Calls Tryz.prog 134 #[v] W fun e w' => ∃ o c, e = .returned (.slice o (sortT (wordsT p.data.toList)).length c) ∧ ReadsO w' w'.heap.size (.slice o (sortT (wordsT p.data.toList)).length c) ((sortT (wordsT p.data.toList)).map txt) ∧ Below base W w') :=
    fun v base W hb h => once_any _ (by omega) v base W hb h
  generalize (sortT (wordsT p.data.toList)) = st at HO ⊢
  generalize wordsT p.data.toList = wt at HW HO hwl
  have bW := Boxed.new w 4 (.bool want)
  have hB0 : Below w.heap.size w (w.alloc (.cells #[.bool want] 4)) := (Below.refl _ w).alloc (Nat.le_refl _) _
  have hs0 : (w.alloc (.cells #[.bool want] 4)).heap.size = w.heap.size + 1 := by simp
  go_enter Tryz.func133, Tryz.ntmps133
  go_wp2_with fail
  refine (HW.out _).mono ?_
  rintro e w1 ⟨v, rfl, hown, hb1⟩
  go_wp2_with fail
  refine (HO.out v _ w1 hb1.size hown).mono ?_
  rintro e w2 ⟨o, c, rfl, hr2, hb2⟩
  have hb2' := hb2
  rw [hs0] at hb1 hb2
  have hsz2 : w.heap.size + 1 ≤ w2.heap.size := by have := hb2.size; have := hb1.size; omega
  have bW2 : Boxed w2 w.heap.size 4 (.bool want) := (hb2.block _ (by omega)).trans ((hb1.block _ (by omega)).trans bW)
  have hB2 : Below w.heap.size w w2 := (hB0.trans (hb1.mono (by omega))).trans (hb2.mono (by omega))
  go_wp2_with fail
  go_ret
  refine ⟨_, _, _, _, _, rfl, Boxed.new _ _ _, bW2.alloc _, hr2.below ((Below.refl _ w2).alloc (Nat.le_refl _) _) (by simp), hB2.alloc (by omega) _⟩
end Go.Proofs.YtbngoodjgijmgaaGreatDoor
