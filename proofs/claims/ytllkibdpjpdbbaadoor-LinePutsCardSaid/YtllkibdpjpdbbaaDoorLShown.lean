/-
  The chapter's examples come out as the statements' function shown asks.
-/
import Derived.Deep.QuietTactic
import Derived.BigQuiet
import Derived.Test.YtllkibdpjpdbbaaDoorLPut
import Derived.Test.YtllkibdpjpdbbaaDoorLSame
namespace Go.Proofs.YtllkibdpjpdbbaaDoor
open Go.RowKit Go.Shelf


theorem put_fit {xs : List (List UInt8)} {e : Ending} (h : PutIs xs e) (hf : Fit xs) : e = .returned (.tuple #[.string (txt (lineOf xs)), .int .i64 0]) := by
  rcases h with ⟨_, h⟩ | ⟨h, _⟩ | ⟨_, h, _⟩
  · exact h
  · subst h; exact absurd hf.1 (by decide)
  · exact absurd hf h
theorem put_one (x : ByteArray) (hx : x.size ≤ 1000) (w : World) : Calls Tryd.prog 12 #[.slice (some ⟨w.heap.size, 0, none⟩) 1 1] (w.alloc (.cells #[.string x] 9)) fun e w' => e = .returned (.tuple #[.string (txt (lineOf [x.data.toList])), .int .i64 0]) ∧ Below w.heap.size w w' := by
  have hr := built_readsO w [x]
  refine (put_any _ [x] (w.alloc (.cells #[.string x] 9)) (by rw [World.size_alloc]; exact hr) (by show 1 ≤ maxLen; decide) (by intro y hy; simp at hy; subst hy; omega)).mono fun e w' h => ⟨?_, ?_⟩
  · have hq := (quote_len x.data.toList).2
    rw [size_list] at hq
    exact put_fit h.1 ⟨by simp, by simp, by simp [bodyOf]; omega⟩
  · have := h.2
    rw [World.size_alloc] at this
    exact ((Below.refl _ w).alloc (Nat.le_refl _) _).trans (this.mono (by omega))

theorem built_readsLL (W : World) (x : ByteArray) : ReadsLL ((W.alloc (.cells #[.string x] 9)).alloc (.cells #[.slice (some ⟨W.heap.size, 0, none⟩) 1 1] 22)) (W.heap.size + 2) (.slice (some ⟨W.heap.size + 1, 0, none⟩) 1 1) [[x]] := by
  refine ⟨some ⟨W.heap.size + 1, 0, none⟩, 1, rfl, fun i xs hi => ?_⟩
  have hi0 : i = 0 := by
    have := (List.getElem?_eq_some_iff.1 hi).1
    simp at this; exact this
  subst hi0
  cases hi
  have e1 : ((W.alloc (.cells #[.string x] 9)).alloc (.cells #[.slice (some ⟨W.heap.size, 0, none⟩) 1 1] 22)).heap[W.heap.size + 1]? = some (.cells #[.slice (some ⟨W.heap.size, 0, none⟩) 1 1] 22 (0, 0)) := by
    have := World.alloc_heap_new (W.alloc (.cells #[.string x] 9)) (.cells #[.slice (some ⟨W.heap.size, 0, none⟩) 1 1] 22)
    rwa [World.size_alloc] at this
  refine ⟨W.heap.size + 1, 0, .slice (some ⟨W.heap.size, 0, none⟩) 1 1, rfl, by omega, Nat.le_refl _, cell_at e1 rfl, ?_⟩
  exact (built_readsO W [x]).below ((Below.refl _ _).alloc (by simp) _) (by omega)

theorem shown_scan : scanOf (lineOf [[97]] ++ (lineOf [[98]]).take 10) = [([[97]], (lineOf [[98]]).take 10)] := by
  have h1 := take_line [[97]] ⟨by decide, by decide, by decide⟩ ((lineOf [[98]]).take 10)
  rw [scan_ok h1, scan_not (s := (lineOf [[98]]).take 10)]
  intro xs r e
  rw [take_none _ (cut_no_nl [[98]] 10 (by rw [line_len]; decide))] at e
  cases e

set_option maxRecDepth 100000 in
set_option maxHeartbeats 2000000 in
theorem shown_any (w : World) : Calls Tryd.prog 10 #[] w fun e w' => e = .returned (.bool true) ∧ Below w.heap.size w w' := by
  have H1 := Lib.hid (put_one ⟨#[97, 32, 98]⟩ (by decide))
  have H2 := Lib.hid (put_one ⟨#[97]⟩ (by decide))
  have H3 := Lib.hid (put_one ⟨#[98]⟩ (by decide))
  have za : ¬ (txt (lineOf [(⟨#[97, 32, 98]⟩ : ByteArray).data.toList])).size < 6 := by rw [txt_size, line_len]; decide
  have za2 : (6 : Nat) ≤ (txt (lineOf [(⟨#[97, 32, 98]⟩ : ByteArray).data.toList])).size := by omega
  have zb : (txt (lineOf [(⟨#[97]⟩ : ByteArray).data.toList])).size = 11 := by rw [txt_size, line_len]; decide
  have zc : (txt (lineOf [(⟨#[98]⟩ : ByteArray).data.toList])).size = 11 := by rw [txt_size, line_len]; decide
  have ha6 : ((txt (lineOf [(⟨#[97, 32, 98]⟩ : ByteArray).data.toList])).extract 0 6).toList = [97, 37, 50, 48, 98, 32] := by
    rw [Lib.toList_data, Lib.extract_data, txt_data, List.drop_zero, lineOf, List.append_assoc, List.take_append_of_le_length (by decide)]
    decide
  have hsc : txt (lineOf [(⟨#[97]⟩ : ByteArray).data.toList]) ++ (txt (lineOf [(⟨#[98]⟩ : ByteArray).data.toList])).extract 0 10 = txt (lineOf [[97]] ++ (lineOf [[98]]).take 10) := by
    rw [extract_txt, txt_data, txt_append]; rfl
  have hS := scan_any (txt (lineOf [[97]] ++ (lineOf [[98]]).take 10)) (by rw [txt_size, List.length_append, List.length_take, line_len]; decide)
  unfold ScanPost at hS
  rw [txt_data, shown_scan] at hS
  have hei : endI (lineOf [[97]] ++ (lineOf [[98]]).take 10) [([[97]], (lineOf [[98]]).take 10)] = 11 := by
    unfold endI
    simp only [List.getLast?_singleton, List.length_append, List.length_take, line_len]
    decide
  rw [hei] at hS
  have HS := Lib.hid hS
  have HSC := Lib.hid hsc
  clear hS hsc hei
  generalize txt (lineOf [(⟨#[97, 32, 98]⟩ : ByteArray).data.toList]) = a at *
  generalize txt (lineOf [(⟨#[97]⟩ : ByteArray).data.toList]) = b at *
  generalize txt (lineOf [(⟨#[98]⟩ : ByteArray).data.toList]) = c at *
  generalize txt (lineOf [[97]] ++ (lineOf [[98]]).take 10) = sc at *
  have e1 : decide ((a.size : Int) < 6) = false := by simp; omega
  have e2 : (!(a.extract 0 6).toList == [97, 37, 50, 48, 98, 32]) = false := by rw [ha6]; rfl
  have e3 : ((b.size : Int) != 11) = false := by rw [zb]; rfl
  have e4 : ((c.size : Int) != 11) = false := by rw [zc]; rfl
  have zc2 : (10 : Nat) ≤ c.size := by omega
  have z5 : (c.extract 0 10).size = 10 := by rw [ByteArray.size_extract]; omega
  have e5 : ¬ 9223372036854775807 < b.size + (c.extract 0 10).size := by omega
  clear ha6 za
  go_enter Tryd.func10, Tryd.ntmps10
  go_wp2_with fail
  refine (H1.out _).mono ?_
  rintro e w1 ⟨rfl, hb1⟩
  go_wp2_with fail
  refine (H2.out _).mono ?_
  rintro e w2 ⟨rfl, hb2⟩
  go_wp2_with fail
  refine (H3.out _).mono ?_
  rintro e w3 ⟨rfl, hb3⟩
  have hB3 := below3 hb1 hb2 hb3
  go_wp2_with fail
  rw [HSC.out]
  refine (HS.out _).mono ?_
  rintro e w4 ⟨hb4, v, rfl, hrd⟩
  have hB4 := below2 hB3 hb4
  have hS2 := sameAll_any v (.slice (some ⟨w4.heap.size + 1, 0, none⟩) 1 1) [[⟨#[97]⟩]] [[⟨#[97]⟩]] (w4.heap.size + 2) ((w4.alloc (.cells #[.string ⟨#[97]⟩] 9)).alloc (.cells #[.slice (some ⟨w4.heap.size, 0, none⟩) 1 1] 22))
    (ReadsLL.below (show ReadsLL w4 w4.heap.size v [[⟨#[97]⟩]] from hrd) (((Below.refl _ _).alloc (Nat.le_refl _) _).alloc (by simp) _) (by omega)) (built_readsLL w4 ⟨#[97]⟩) (by decide) (by intro xs hx; simp at hx; subst hx; decide)
  rw [decide_eq_true rfl] at hS2
  have HS2 := Lib.hid hS2
  clear hS2 hrd HS HSC
  go_wp2_with fail
  refine HS2.out.mono ?_
  rintro e w5 ⟨rfl, hb5⟩
  go_wp2_with fail
  go_ret
  refine ⟨rfl, below2 hB4 ?_⟩
  rw [World.size_alloc, World.size_alloc] at hb5
  exact (((Below.refl _ w4).alloc (Nat.le_refl _) _).alloc (by simp) _).trans (hb5.mono (by omega))

end Go.Proofs.YtllkibdpjpdbbaaDoor
