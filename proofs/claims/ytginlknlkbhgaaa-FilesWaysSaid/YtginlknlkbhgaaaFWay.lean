/-
  strings.HasPrefix, strings.CutPrefix, and whether one path is in the way of another one: for every text.
-/
import Derived.Test.YtginlknlkbhgaaaFMath
import Derived.Test.YtginlknlkbhgaaaFPath
namespace Go.Proofs.Ytginlknlkbhgaaa
open Go.RowKit Go.Shelf

abbrev ByteArray.L (s : ByteArray) : BS := s.data.toList
def preB (p s : ByteArray) : Bool := p.data.toList.isPrefixOf s.data.toList
theorem pre_take {p s : ByteArray} (h : preB p s = true) : p.size ≤ s.size ∧ s.extract 0 p.size = p ∧ s.data.toList = p.data.toList ++ (s.extract p.size s.size).data.toList := by
  have hp : p.data.toList <+: s.data.toList := List.isPrefixOf_iff_prefix.1 h
  obtain ⟨r, hr⟩ := hp
  have hl : p.size ≤ s.size := by rw [← size_list p, ← size_list s, ← hr]; simp
  have h1 : s.extract 0 p.size = p := by
    rw [extract_txt, ← hr, List.drop_zero, Nat.sub_zero, ← size_list p, List.take_left, txt_toList]
  refine ⟨hl, h1, ?_⟩
  rw [extract_txt, txt_data, ← hr, ← size_list p, List.drop_left, List.take_of_length_le]
  rw [← size_list s, ← hr]; simp
theorem pre_short {p s : ByteArray} (h : preB p s = true) : p.size ≤ s.size := (pre_take h).1
theorem pre_ne {p s : ByteArray} (h : preB p s = false) : s.extract 0 p.size ≠ p := fun e => by
  have : preB p s = true := by
    unfold preB
    rw [List.isPrefixOf_iff_prefix, ← e, extract_txt, txt_data, List.drop_zero, Nat.sub_zero]
    exact List.take_prefix _ _
  rw [h] at this; cases this

set_option maxRecDepth 100000 in
set_option maxHeartbeats 1000000 in
theorem litePre_any (s p : ByteArray) (w : World) : Calls Try.prog 86 #[.string s, .string p] w fun e w' => e = .returned (.bool (preB p s)) ∧ w = w' := by
  cases h : preB p s with
  | true =>
    obtain ⟨h1, h2, _⟩ := pre_take h
    have e1 : decide ((p.size : Int) ≤ (s.size : Int)) = true := by simp; omega
    have e2 : ((s.extract 0 p.size).toList == p.toList) = true := by rw [str_eq]; simp [h2]
    have h2' : ((s.size : Int) < (p.size : Int)) = False := by simp; omega
    clear h h2
    go_enter Try.func86, Try.ntmps86
    go_wp2
    go_ret
    exact ⟨by simp_all, rfl⟩
  | false =>
    by_cases h1 : p.size ≤ s.size
    · have h2 := pre_ne h
      have e1 : decide ((p.size : Int) ≤ (s.size : Int)) = true := by simp; omega
      have e2 : ((s.extract 0 p.size).toList == p.toList) = false := by rw [str_eq]; simp [h2]
      have h2' : ((s.size : Int) < (p.size : Int)) = False := by simp; omega
      clear h h2
      go_enter Try.func86, Try.ntmps86
      go_wp2
      go_ret
      exact ⟨by simp_all, rfl⟩
    · have e1 : decide ((p.size : Int) ≤ (s.size : Int)) = false := by simp; omega
      clear h
      go_enter Try.func86, Try.ntmps86
      go_wp2
      go_ret
      exact ⟨rfl, rfl⟩

set_option maxRecDepth 100000 in
theorem hasPre_any (s p : ByteArray) (w : World) : Calls Try.prog 77 #[.string s, .string p] w fun e w' => e = .returned (.bool (preB p s)) ∧ w = w' := by
  have H := Lib.hid (litePre_any s p w)
  go_enter Try.func77, Try.ntmps77
  go_wp2_with (go_at_call 86; refine (H.out).mono ?_; rintro e w' ⟨rfl, rfl⟩)
  go_ret
  exact ⟨rfl, rfl⟩

theorem litePre_t (s p : ByteArray) (w : World) (h : preB p s = true) : Calls Try.prog 86 #[.string s, .string p] w fun e w' => e = .returned (.bool true) ∧ w = w' := by
  have := litePre_any s p w; rwa [h] at this
theorem litePre_f (s p : ByteArray) (w : World) (h : preB p s = false) : Calls Try.prog 86 #[.string s, .string p] w fun e w' => e = .returned (.bool false) ∧ w = w' := by
  have := litePre_any s p w; rwa [h] at this

def cutT (s p : ByteArray) : ByteArray := if preB p s then s.extract p.size s.size else s

set_option maxRecDepth 100000 in
set_option maxHeartbeats 1000000 in
theorem liteCut_any (s p : ByteArray) (w : World) : Calls Try.prog 85 #[.string s, .string p] w fun e w' => e = .returned (.tuple #[.string (cutT s p), .bool (preB p s)]) ∧ w = w' := by
  cases h : preB p s with
  | true =>
    have H := Lib.hid (litePre_t s p w h)
    have h1 := pre_short h
    have e2 : ((s.size : Int) < (p.size : Int)) = False := by simp; omega
    have HC : Hid (cutT s p = s.extract p.size s.size) := by show _ = _; unfold cutT; rw [h]; rfl
    clear h
    go_enter Try.func85, Try.ntmps85
    go_wp2_with (go_at_call 86; refine (H.out).mono ?_; rintro e w' ⟨rfl, rfl⟩)
    go_ret2
    rw [HC.out]
    exact ⟨by simp, rfl⟩
  | false =>
    have H := Lib.hid (litePre_f s p w h)
    have HC : Hid (cutT s p = s) := by show _ = _; unfold cutT; rw [h]; rfl
    clear h
    go_enter Try.func85, Try.ntmps85
    go_wp2_with (go_at_call 86; refine (H.out).mono ?_; rintro e w' ⟨rfl, rfl⟩)
    go_ret2
    rw [HC.out]
    exact ⟨rfl, rfl⟩

set_option maxRecDepth 100000 in
theorem cutPre_any (s p : ByteArray) (w : World) : Calls Try.prog 76 #[.string s, .string p] w fun e w' => e = .returned (.tuple #[.string (cutT s p), .bool (preB p s)]) ∧ w = w' := by
  have H := Lib.hid (liteCut_any s p w)
  go_enter Try.func76, Try.ntmps76
  go_wp2_with (go_at_call 85; refine (H.out).mono ?_; rintro e w' ⟨rfl, rfl⟩)
  go_ret2
  exact ⟨rfl, rfl⟩

theorem way_cut (a b : ByteArray) : way a.data.toList b.data.toList = (preB a b && preB ⟨#[47]⟩ (cutT b a)) := by
  unfold way
  cases h : preB a b with
  | false =>
    rw [Bool.false_and, Bool.eq_false_iff]
    intro h'
    have h1 : a.data.toList <+: b.data.toList := (List.prefix_append _ _).trans (List.isPrefixOf_iff_prefix.1 h')
    have h2 : preB a b = true := List.isPrefixOf_iff_prefix.2 h1
    rw [h] at h2; cases h2
  | true =>
    obtain ⟨_, _, h3⟩ := pre_take h
    have e : cutT b a = b.extract a.size b.size := by unfold cutT; rw [h]; rfl
    rw [Bool.true_and, e, h3, Bool.eq_iff_iff, List.isPrefixOf_iff_prefix]
    unfold preB
    rw [List.isPrefixOf_iff_prefix, List.prefix_append_right_inj]

theorem cutPre_t (s p : ByteArray) (w : World) (h : preB p s = true) : Calls Try.prog 76 #[.string s, .string p] w fun e w' => e = .returned (.tuple #[.string (cutT s p), .bool true]) ∧ w = w' := by
  have := cutPre_any s p w; rwa [h] at this
theorem cutPre_f (s p : ByteArray) (w : World) (h : preB p s = false) : Calls Try.prog 76 #[.string s, .string p] w fun e w' => e = .returned (.tuple #[.string (cutT s p), .bool false]) ∧ w = w' := by
  have := cutPre_any s p w; rwa [h] at this

set_option maxRecDepth 100000 in
set_option maxHeartbeats 1000000 in
theorem isInWay_any (a b : ByteArray) (w : World) : Calls Try.prog 65 #[.string a, .string b] w fun e w' => e = .returned (.bool (way a.data.toList b.data.toList)) ∧ w = w' := by
  rw [way_cut]
  cases h : preB a b with
  | false =>
    have H := Lib.hid (cutPre_f b a w h)
    clear h
    go_enter Try.func65, Try.ntmps65
    go_wp2_with (go_at_call 76; refine (H.out).mono ?_; rintro e w' ⟨rfl, rfl⟩)
    go_ret
    exact ⟨rfl, rfl⟩
  | true =>
    have H := Lib.hid (cutPre_t b a w h)
    obtain ⟨c, hc⟩ : ∃ c, c = cutT b a := ⟨_, rfl⟩
    rw [← hc] at H ⊢
    have H2 := Lib.hid (hasPre_any c ⟨#[47]⟩ w)
    clear h hc
    go_enter Try.func65, Try.ntmps65
    go_wp2_with (first | (go_at_call 76; refine (H.out).mono ?_; rintro e w' ⟨rfl, rfl⟩) | (go_at_call 77; refine (H2.out).mono ?_; rintro e w' ⟨rfl, rfl⟩))
    go_ret
    exact ⟨by simp, rfl⟩

end Go.Proofs.Ytginlknlkbhgaaa
