/-
  The laws' own of and shown; how long answers are. No condition.
-/
import Derived.Test.YtfdlcmjjnoapfaaGreatDoorNC
namespace Go.Proofs.YtfdlcmjjnoapfaaGreatDoor
open Go.RowKit Go.Shelf

def LawPost (w : World) (e : Ending) (w' : World) : Prop := e = .returned (.bool true) ∧ Below w.heap.size w w'
theorem lawPost_of {w w1 w' : World} {e : Ending} (hb : Below w.heap.size w w1) (h : e = .returned (.bool true) ∧ Below w1.heap.size w1 w') : LawPost w e w' := ⟨h.1, hb.trans (h.2.mono hb.size)⟩

def OfPost (N : BT) (x : List BT) (w : World) (e : Ending) (w' : World) : Prop := e = .returned (.string (txt (callT N x).1)) ∧ Below w.heap.size w w'
set_option maxHeartbeats 400000 in
theorem of_any (s : ByteArray) (v : Value) (xs : List ByteArray) (hz : ∀ y ∈ xs, y.size ≤ 1000000) (w : World) (hst : Std w) (hr : ReadsO w w.heap.size v xs) :
    Calls Tryz.prog 18 #[.string s, v] w (OfPost s.data.toList (xs.map fun x => x.data.toList) w) := by
  have HC := Lib.hid (call_any s v xs hz w hst hr)
  obtain ⟨o, c, rfl, _⟩ := hr
  clear hst
  unfold CallPost at HC
  go_enter Tryz.func18, Tryz.ntmps18
  go_wp2_with (go_at_call 14; refine HC.out.mono ?_; rintro e w' ⟨rfl, hb⟩)
  go_ret
  exact ⟨rfl, hb⟩
theorem built_reads (W : World) (xs : List ByteArray) : ReadsO (W.alloc (.cells (xs.map Value.string).toArray 9)) (W.alloc (.cells (xs.map Value.string).toArray 9)).heap.size (.slice (some ⟨W.heap.size, 0, none⟩) xs.length xs.length) xs := by
  have hn := World.alloc_heap_new W (.cells (xs.map Value.string).toArray 9)
  refine ⟨_, _, rfl, fun k x hk => ⟨W.heap.size, 0, rfl, by simp, Nat.le_refl _, ?_⟩⟩
  have hk' := (List.getElem?_eq_some_iff.1 hk)
  simp only [World.cell?, hn, Nat.zero_add]
  simp [hk'.1, hk'.2]
theorem of_built (s : ByteArray) (xs : List ByteArray) (hz : ∀ y ∈ xs, y.size ≤ 1000000) (w : World) (hst : Std w) :
    Calls Tryz.prog 18 #[.string s, .slice (some ⟨w.heap.size, 0, none⟩) xs.length xs.length] (w.alloc (.cells (xs.map Value.string).toArray 9)) (OfPost s.data.toList (xs.map fun x => x.data.toList) w) := by
  have hb : Below w.heap.size w (w.alloc (.cells (xs.map Value.string).toArray 9)) := (Below.refl _ w).alloc (Nat.le_refl _) _
  exact (of_any s _ xs hz _ (hst.below hb) (built_reads w xs)).mono fun e w' h => ⟨h.1, hb.trans (h.2.mono hb.size)⟩
theorem of1 (s a : ByteArray) (ha : a.size ≤ 1000000) (w : World) (hst : Std w) :
    Calls Tryz.prog 18 #[.string s, .slice (some ⟨w.heap.size, 0, none⟩) 1 1] (w.alloc (.cells #[.string a] 9)) (OfPost s.data.toList [a.data.toList] w) :=
  of_built s [a] (fun y hy => by simp at hy; rw [hy]; exact ha) w hst
theorem of2 (s a b : ByteArray) (ha : a.size ≤ 1000000) (hb : b.size ≤ 1000000) (w : World) (hst : Std w) :
    Calls Tryz.prog 18 #[.string s, .slice (some ⟨w.heap.size, 0, none⟩) 2 2] (w.alloc (.cells #[.string a, .string b] 9)) (OfPost s.data.toList [a.data.toList, b.data.toList] w) :=
  of_built s [a, b] (fun y hy => by simp at hy; rcases hy with rfl | rfl <;> assumption) w hst
theorem of3 (s a b c : ByteArray) (ha : a.size ≤ 1000000) (hb : b.size ≤ 1000000) (hc : c.size ≤ 1000000) (w : World) (hst : Std w) :
    Calls Tryz.prog 18 #[.string s, .slice (some ⟨w.heap.size, 0, none⟩) 3 3] (w.alloc (.cells #[.string a, .string b, .string c] 9)) (OfPost s.data.toList [a.data.toList, b.data.toList, c.data.toList] w) :=
  of_built s [a, b, c] (fun y hy => by simp at hy; rcases hy with rfl | rfl | rfl <;> assumption) w hst
theorem call_built (s : ByteArray) (xs : List ByteArray) (hz : ∀ y ∈ xs, y.size ≤ 1000000) (w : World) (hst : Std w) :
    Calls Tryz.prog 14 #[.string s, .slice (some ⟨w.heap.size, 0, none⟩) xs.length xs.length] (w.alloc (.cells (xs.map Value.string).toArray 9)) (CallPost s.data.toList (xs.map fun x => x.data.toList) w) := by
  have hb : Below w.heap.size w (w.alloc (.cells (xs.map Value.string).toArray 9)) := (Below.refl _ w).alloc (Nat.le_refl _) _
  exact (call_any s _ xs hz _ (hst.below hb) (built_reads w xs)).mono fun e w' h => ⟨h.1, hb.trans (h.2.mono hb.size)⟩

set_option maxRecDepth 100000 in
set_option maxHeartbeats 2000000 in
theorem shown_any (w : World) (hst : Std w) : Calls Tryz.prog 12 #[] w (LawPost w) := by
  have H1 : Hid (∀ W, Std W → Calls Tryz.prog 14 #[.string ⟨#[112, 97, 116, 115, 117, 98, 115, 116]⟩, .slice (some ⟨W.heap.size, 0, none⟩) 3 3] (W.alloc (.cells #[.string ⟨#[37, 46, 99]⟩, .string ⟨#[37, 46, 111]⟩, .string ⟨#[97, 46, 99, 32, 98, 46, 104]⟩] 9)) fun e w' => e = .returned (.tuple #[.string ⟨#[97, 46, 111, 32, 98, 46, 104]⟩, .int .i64 0]) ∧ Below W.heap.size W w') := fun W hW => by
    have := call_built ⟨#[112, 97, 116, 115, 117, 98, 115, 116]⟩ [⟨#[37, 46, 99]⟩, ⟨#[37, 46, 111]⟩, ⟨#[97, 46, 99, 32, 98, 46, 104]⟩] (by decide) W hW
    have e : callT nPatsubst [[37, 46, 99], [37, 46, 111], [97, 46, 99, 32, 98, 46, 104]] = ([97, 46, 111, 32, 98, 46, 104], 0) := by kernel_rfl
    unfold CallPost at this
    rw [show callT (ByteArray.mk #[112, 97, 116, 115, 117, 98, 115, 116]).data.toList ([(⟨#[37, 46, 99]⟩ : ByteArray), ⟨#[37, 46, 111]⟩, ⟨#[97, 46, 99, 32, 98, 46, 104]⟩].map fun x => x.data.toList) = ([97, 46, 111, 32, 98, 46, 104], 0) from e] at this
    exact this
  have H2 : Hid (∀ W, Std W → Calls Tryz.prog 14 #[.string ⟨#[115, 111, 114, 116]⟩, .slice (some ⟨W.heap.size, 0, none⟩) 1 1] (W.alloc (.cells #[.string ⟨#[98, 32, 97, 32, 98]⟩] 9)) fun e w' => e = .returned (.tuple #[.string ⟨#[97, 32, 98]⟩, .int .i64 0]) ∧ Below W.heap.size W w') := fun W hW => by
    have := call_built ⟨#[115, 111, 114, 116]⟩ [⟨#[98, 32, 97, 32, 98]⟩] (by decide) W hW
    have e : callT nSort [[98, 32, 97, 32, 98]] = ([97, 32, 98], 0) := by kernel_rfl
    unfold CallPost at this
    rw [show callT (ByteArray.mk #[115, 111, 114, 116]).data.toList ([(⟨#[98, 32, 97, 32, 98]⟩ : ByteArray)].map fun x => x.data.toList) = ([97, 32, 98], 0) from e] at this
    exact this
  have H3 : Hid (∀ W, Std W → Calls Tryz.prog 14 #[.string ⟨#[100, 105, 114]⟩, .slice (some ⟨W.heap.size, 0, none⟩) 1 1] (W.alloc (.cells #[.string ⟨#[120, 47, 121, 32, 122]⟩] 9)) fun e w' => e = .returned (.tuple #[.string ⟨#[120, 47, 32, 46, 47]⟩, .int .i64 0]) ∧ Below W.heap.size W w') := fun W hW => by
    have := call_built ⟨#[100, 105, 114]⟩ [⟨#[120, 47, 121, 32, 122]⟩] (by decide) W hW
    have e : callT nDir [[120, 47, 121, 32, 122]] = ([120, 47, 32, 46, 47], 0) := by kernel_rfl
    unfold CallPost at this
    rw [show callT (ByteArray.mk #[100, 105, 114]).data.toList ([(⟨#[120, 47, 121, 32, 122]⟩ : ByteArray)].map fun x => x.data.toList) = ([120, 47, 32, 46, 47], 0) from e] at this
    exact this
  have HS := Lib.hid hst
  clear hst
  go_enter Tryz.func12, Tryz.ntmps12
  go_wp2_with fail
  refine (H1.out w HS.out).mono ?_
  rintro e w1 ⟨rfl, hb1⟩
  have HS1 := Lib.hid (HS.out.below hb1)
  go_wp2_with fail
  refine (H2.out w1 HS1.out).mono ?_
  rintro e w2 ⟨rfl, hb2⟩
  have HS2 := Lib.hid (HS1.out.below hb2)
  go_wp2_with fail
  refine (H3.out w2 HS2.out).mono ?_
  rintro e w3 ⟨rfl, hb3⟩
  have hB : Below w.heap.size w w3 := (hb1.trans (hb2.mono hb1.size)).trans (hb3.mono (by have := hb1.size; have := hb2.size; omega))
  go_wp2_with fail
  go_ret
  exact ⟨rfl, hB⟩
end Go.Proofs.YtfdlcmjjnoapfaaGreatDoor
