/-
  What the document's own Call of chapter 10 answers, for every name and all arguments of at most a thousand bytes. No condition.
-/
import Derived.Test.YtfdlcmjjnoapfaaGreatDoorOD
namespace Go.Proofs.YtfdlcmjjnoapfaaGreatDoor
open Go.RowKit Go.Shelf

theorem len1 {l : List BT} (h : l.length = 1) : ∃ a, l = [a] := by
  match l, h with
  | [a], _ => exact ⟨a, rfl⟩
theorem len2 {l : List BT} (h : l.length = 2) : ∃ a b, l = [a, b] := by
  match l, h with
  | [a, b], _ => exact ⟨a, b, rfl⟩
theorem len3 {l : List BT} (h : l.length = 3) : ∃ a b c, l = [a, b, c] := by
  match l, h with
  | [a, b, c], _ => exact ⟨a, b, c, rfl⟩
theorem answer10_any (s : ByteArray) (o : Option Addr) (c : Nat) (xs : List BT) (hz : ∀ x ∈ xs, x.length ≤ 1000) (h0 : manyOf s.data.toList ≠ 0) (hm : (xs.length : Int) = manyOf s.data.toList) (w : World) (hc : CellsW w o c xs) :
    Calls Tryz.prog 33 #[.string s, .slice o xs.length c] w (AnsPost (ansT s.data.toList xs) w) := by
  have k1 : manyOf s.data.toList = 1 → ∃ t, xs = [t] ∧ t.length ≤ 1000 := fun h => by
    obtain ⟨t, rfl⟩ := len1 (l := xs) (by omega)
    exact ⟨t, rfl, hz t (by simp)⟩
  have k2 : manyOf s.data.toList = 2 → ∃ a t, xs = [a, t] ∧ a.length ≤ 1000 ∧ t.length ≤ 1000 := fun h => by
    obtain ⟨a, t, rfl⟩ := len2 (l := xs) (by omega)
    exact ⟨a, t, rfl, hz a (by simp), hz t (by simp)⟩
  have k3 : manyOf s.data.toList = 3 → ∃ a b t, xs = [a, b, t] ∧ a.length ≤ 1000 ∧ b.length ≤ 1000 ∧ t.length ≤ 1000 := fun h => by
    obtain ⟨a, b, t, rfl⟩ := len3 (l := xs) (by omega)
    exact ⟨a, b, t, rfl, hz a (by simp), hz b (by simp), hz t (by simp)⟩
  rcases is_name h0 with h | h | h | h | h | h | h | h | h | h | h | h | h | h | h | h | h | h | h
  · obtain ⟨a, b, t, rfl, ha, hb, ht⟩ := k3 (by rw [h]; decide)
    have := ans_subst s h o c a b t ha hb ht w hc
    rwa [← h] at this
  · obtain ⟨a, t, rfl, ha, ht⟩ := k2 (by rw [h]; decide)
    have := ans_findstring s h o c a t ha ht w hc
    rwa [← h] at this
  · obtain ⟨t, rfl, ht⟩ := k1 (by rw [h]; decide)
    have := ans_words s h o c t ht w hc
    rwa [← h] at this
  · obtain ⟨a, t, rfl, ha, ht⟩ := k2 (by rw [h]; decide)
    have := ans_word s h o c a t ha ht w hc
    rwa [← h] at this
  · obtain ⟨a, b, t, rfl, ha, hb, ht⟩ := k3 (by rw [h]; decide)
    have := ans_wordlist s h o c a b t ha hb ht w hc
    rwa [← h] at this
  · obtain ⟨a, b, t, rfl, ha, hb, ht⟩ := k3 (by rw [h]; decide)
    have := ans_patsubst s h o c a b t ha hb ht w hc
    rwa [← h] at this
  · obtain ⟨a, t, rfl, ha, ht⟩ := k2 (by rw [h]; decide)
    exact ans_each2 s (by simp [h]) o c a t ha ht w hc
  · obtain ⟨a, t, rfl, ha, ht⟩ := k2 (by rw [h]; decide)
    exact ans_each2 s (by simp [h]) o c a t ha ht w hc
  · obtain ⟨t, rfl, ht⟩ := k1 (by rw [h]; decide)
    have := ans_sort s h o c t ht w hc
    rwa [← h] at this
  · obtain ⟨t, rfl, ht⟩ := k1 (by rw [h]; decide)
    have := ans_firstword s h o c t ht w hc
    rwa [← h] at this
  · obtain ⟨t, rfl, ht⟩ := k1 (by rw [h]; decide)
    have := ans_lastword s h o c t ht w hc
    rwa [← h] at this
  · obtain ⟨t, rfl, ht⟩ := k1 (by rw [h]; decide)
    exact ans_each1 s (by simp [h]) o c t ht w hc
  · obtain ⟨t, rfl, ht⟩ := k1 (by rw [h]; decide)
    exact ans_each1 s (by simp [h]) o c t ht w hc
  · obtain ⟨t, rfl, ht⟩ := k1 (by rw [h]; decide)
    exact ans_each1 s (by simp [h]) o c t ht w hc
  · obtain ⟨t, rfl, ht⟩ := k1 (by rw [h]; decide)
    exact ans_each1 s (by simp [h]) o c t ht w hc
  · obtain ⟨a, t, rfl, ha, ht⟩ := k2 (by rw [h]; decide)
    exact ans_each2 s (by simp [h]) o c a t ha ht w hc
  · obtain ⟨a, t, rfl, ha, ht⟩ := k2 (by rw [h]; decide)
    exact ans_each2 s (by simp [h]) o c a t ha ht w hc
  · obtain ⟨a, t, rfl, ha, ht⟩ := k2 (by rw [h]; decide)
    have := ans_join s h o c a t ha ht w hc
    rwa [← h] at this
  · obtain ⟨t, rfl, ht⟩ := k1 (by rw [h]; decide)
    exact ans_each1 s (by simp [h]) o c t ht w hc

set_option maxRecDepth 100000 in
set_option maxHeartbeats 2000000 in
theorem call10_none (s : ByteArray) (o : Option Addr) (n c : Nat) (xs : List BT) (h0 : manyOf s.data.toList = 0) (w : World) :
    Calls Tryz.prog 15 #[.string s, .slice o n c] w (CallPost s.data.toList xs w) := by
  have HV : Hid (callT s.data.toList xs = ([], 4)) := by
    show _ = _
    unfold callT
    rw [if_pos h0]
  have HM := many10_any s
  rw [h0] at HM
  have HM' := Lib.hid HM
  clear h0 HM
  go_enter Tryz.func15, Tryz.ntmps15
  go_wp2_with fail
  refine (HM'.out w).mono ?_
  rintro e _ ⟨rfl, rfl⟩
  go_wp2_with fail
  go_ret2
  exact ⟨by rw [HV.out]; rfl, Below.refl _ _⟩
set_option maxRecDepth 100000 in
set_option maxHeartbeats 2000000 in
theorem call10_wrong (s : ByteArray) (o : Option Addr) (n c : Nat) (xs : List BT) (hxl : n = xs.length) (hn : (n : Int) ≠ manyOf s.data.toList) (h0 : manyOf s.data.toList ≠ 0) (w : World) :
    Calls Tryz.prog 15 #[.string s, .slice o n c] w (CallPost s.data.toList xs w) := by
  have HV : Hid (callT s.data.toList xs = ([], 1)) := by
    show _ = _
    unfold callT
    rw [if_neg h0, if_neg (by rw [← hxl]; exact hn)]
  have HM := Lib.hid (many10_any s)
  generalize manyOf s.data.toList = mv at HM h0 hn
  have e1 : (mv == 0) = false := by rw [beq_eq_false_iff_ne]; exact h0
  have e2 : ((n : Int) != mv) = true := by rw [bne_iff_ne]; exact hn
  clear h0 hn hxl
  go_enter Tryz.func15, Tryz.ntmps15
  go_wp2_with fail
  refine (HM.out w).mono ?_
  rintro e _ ⟨rfl, rfl⟩
  go_wp2_with fail
  go_ret2
  exact ⟨by rw [HV.out]; rfl, Below.refl _ _⟩
set_option maxRecDepth 100000 in
set_option maxHeartbeats 2000000 in
theorem call10_any (s : ByteArray) (o : Option Addr) (c : Nat) (xs : List BT) (hz : ∀ x ∈ xs, x.length ≤ 1000) (w : World) (hc : CellsW w o c xs) :
    Calls Tryz.prog 15 #[.string s, .slice o xs.length c] w (CallPost s.data.toList xs w) := by
  by_cases h0 : manyOf s.data.toList = 0
  · exact call10_none s o _ c xs h0 w
  by_cases hne : (xs.length : Int) ≠ manyOf s.data.toList
  · exact call10_wrong s o _ c xs rfl hne h0 w
  have hn : (xs.length : Int) = manyOf s.data.toList := Decidable.not_not.1 hne
  have hA := answer10_any s o c xs hz h0 hn w hc
  have hV : callT s.data.toList xs = finT (ansT s.data.toList xs) := by
    unfold callT
    rw [if_neg h0, if_pos hn]
  unfold CallPost
  rw [hV]
  clear hV hz hc hne
  have HA := Lib.hid hA
  clear hA
  generalize ansT s.data.toList xs = r at HA ⊢
  have HM := Lib.hid (many10_any s)
  generalize manyOf s.data.toList = mv at HM h0 hn
  generalize xs.length = n at HA hn ⊢
  have e1 : (mv == 0) = false := by rw [beq_eq_false_iff_ne]; exact h0
  have e2 : ((n : Int) != mv) = false := by rw [bne_eq_false_iff_eq]; exact hn
  clear h0 hn
  go_enter Tryz.func15, Tryz.ntmps15
  go_wp2_with fail
  refine (HM.out w).mono ?_
  rintro e _ ⟨rfl, rfl⟩
  go_wp2_with fail
  refine HA.out.mono ?_
  rintro e w1 ⟨hb, ⟨t, rfl, rfl⟩ | ⟨t, rfl, rfl⟩⟩
  · by_cases h4 : t.length ≤ 4000
    · have HV : Hid (finT (some t) = (t, 0)) := by show _ = _; unfold finT; exact if_pos h4
      have h5 : ¬ (4000 : Int) < ((txt t).size : Int) := by rw [txt_size]; omega
      have h6 : ¬ 4000 < (txt t).size := by rw [txt_size]; omega
      go_wp2_with fail
      go_ret2
      exact ⟨by rw [HV.out]; rfl, hb⟩
    · have HV : Hid (finT (some t) = ([], 3)) := by show _ = _; unfold finT; exact if_neg h4
      have h5 : (4000 : Int) < ((txt t).size : Int) := by rw [txt_size]; omega
      have h6 : 4000 < (txt t).size := by rw [txt_size]; omega
      go_wp2_with fail
      go_ret2
      exact ⟨by rw [HV.out]; rfl, hb⟩
  · go_wp2_with fail
    go_ret2
    exact ⟨rfl, hb⟩
end Go.Proofs.YtfdlcmjjnoapfaaGreatDoor
