/-
  What the document's own Scan answers.
-/
import Derived.Deep.QuietTactic
import Derived.BigQuiet
import Derived.Test.YtllkibdpjpdbbaaDoorLRTake
import Derived.Test.YtllkibdpjpdbbaaDoorLScan
namespace Go.Proofs.YtllkibdpjpdbbaaDoor
open Go.RowKit Go.Shelf
attribute [local go_sem] Oper.semAt_some


theorem fresh_owns {W : World} {base n : Nat} {v : Value} {xs : List (List UInt8)} (h : W.ownsRow base 9 1 v xs.length ((xs.map txt).map Value.string)) (hn : n ≤ base) : FreshL W n (fun _ => False) v xs := FreshL.owns h hn (fun _ h => h.elim)
theorem endI_left {s : List UInt8} {pre : List (List (List UInt8) × List UInt8)} {r : List UInt8} (h : r = (match pre.getLast? with | some x => x.2 | none => s)) : endI s pre = (s.length : Int) - r.length := by
  unfold endI
  cases hl : pre.getLast? with
  | none => rw [hl] at h; simp only at h ⊢; rw [h]; omega
  | some x => rw [hl] at h; simp only at h ⊢; rw [h]

set_option maxRecDepth 100000 in
set_option maxHeartbeats 3000000 in
theorem rscan_any (s : ByteArray) (hs : s.size ≤ 100000) (w : World) : Calls Tryd.prog 17 #[.string s] w (ScanPost s w) := by
  obtain ⟨i0, hi, hz0, hz1, hz2⟩ := info_parts infoList
  have hsl := size_list s
  have hlen := scan_len _ s.data.toList (Nat.le_refl _)
  rw [hsl] at hlen
  have HL := Lib.hid hlen
  have HSL := Lib.hid hsl
  clear hlen hsl
  go_enter Tryd.func17, Tryd.ntmps17
  go_wp2_with fail
  go_loopw [4, 5] (fun ov lv wr => ∃ (r : ByteArray) (pre : List (List (List UInt8) × List UInt8)) (us : List Value), lv = .string r ∧ r.size ≤ s.size ∧ Hid (scanOf s.data.toList = pre ++ scanOf r.data.toList) ∧ Hid (r.data.toList = (match pre.getLast? with | some x => x.2 | none => s.data.toList)) ∧
      wr.ownsRow w.heap.size 22 1 ov pre.length us ∧ FreshLL wr w.heap.size (fun _ => False) us pre ∧ Below w.heap.size w wr) (fun _ lv _ => strLen lv)
  case atStart => exact ⟨s, [], [], rfl, Nat.le_refl _, (by show _ = _; simp), rfl, World.ownsRow_nil _ _ _ _, ⟨rfl, by simp⟩, Below.refl _ _⟩
  case round =>
    obtain ⟨r, pre, us, rfl, hrs, HP, HR, hown, hf, hB⟩ := hrel
    have hsw := hB.size
    have HT := Lib.hid (rtake_any r (by omega))
    unfold TakePost at HT
    obtain ⟨vo, vc, rfl⟩ := ownsRow_shape hown
    go_wp2_with fail
    refine (HT.out _).mono ?_
    rintro e w1 ⟨hbq, (⟨c, he, rfl⟩ | ⟨xs, rr, v, ht, rfl, hown1⟩)⟩
    · obtain ⟨ec, hno⟩ := err_code he
      have HE : Hid (scanOf s.data.toList = pre) := by show _ = _; rw [HP.out, scan_not hno, List.append_nil]
      have hlast := endI_left HR.out
      rw [size_list, size_list] at hlast
      have HLA := Lib.hid hlast
      clear hno he HT hlast
      go_wp2_with fail
      go_ret2
      refine ⟨hB.trans (hbq.mono hsw), .slice vo pre.length vc, ?_, ?_⟩
      rotate_left
      · rw [HE.out]
        exact readsLL_owns (ownsRow_below hown hbq) (hf.step (X' := fun _ => False) (turned_of_below (X := fun _ => False) hbq) (fun k h => h.elim) (fun k h => h.elim))
      · rw [HE.out, HLA.out]; rfl
    · have hless := take_less ht
      rw [size_list] at hless
      have hpx : scanOf s.data.toList = (pre ++ [(xs, rr)]) ++ scanOf rr := by rw [HP.out, scan_ok ht]; simp
      have hpl : pre.length + 1 ≤ 100000 := by
        have h1 := HL.out
        rw [hpx] at h1
        simp at h1; omega
      have hpm : pre.length + 1 ≤ maxLen := by unfold maxLen; omega
      have HPX := Lib.hid hpx
      have hB1 := hB.trans (hbq.mono hsw)
      have hsw1 := hB1.size
      have hown2 := ownsRow_below hown hbq
      have hf2 := hf.step (turned_of_below (X := fun _ => False) hbq) (fun k h => h.elim) (fun k h => h.elim) (X' := fun _ => False)
      have hfv := fresh_owns hown1 hsw
      obtain ⟨uo, uc, rfl⟩ := ownsRow_shape hown1
      clear hpx HP HR HT ht hown hf hown1 hB
      go_wp2_with (at_builtin; refine wpList_append_own _ rfl _ _ 30 rfl w.heap.size 22 i0 (.slice none 0 0) 1 24 Tryd.underlying30 hi hz0 hz1 hz2 rfl (by decide) _ _ _ rfl (hown2.alloc _) ⟨w1.heap.size, 0, none⟩ 1 1 [.slice uo xs.length uc] rfl rfl (cell_one_new _ _ _) (by simp [Value.oneCell']) hpm (by omega) (by simp; omega) ?_; intro v' w3 hown' hgrow _)
      have hB3 := (hB1.alloc hsw1 (.cells #[.slice uo xs.length uc] 22)).grown hgrow (by simp; omega) (fun j ej => (hown2.lt j ej).1)
      have step : ∀ (u : Value) (ys : List (List UInt8)), FreshL w1 w.heap.size (fun _ => False) u ys → FreshL w3 w.heap.size (fun _ => False) u ys := by
        intro u ys h
        have h1 := h.step (Turned.alloc (fun _ => False) w1 (.cells #[.slice uo xs.length uc] 22)) (Nat.le_refl _) (fun k h => h.elim) (fun k h => h.elim) (X' := fun _ => False)
        exact h1.grown (hown2.alloc _) (by decide) hgrow
      go_roundw
      case rel =>
        refine ⟨txt rr, pre ++ [(xs, rr)], us ++ [.slice uo xs.length uc], rfl, by rw [txt_size]; omega, ?_, ?_, by simpa using hown', ⟨by rw [List.length_append, List.length_append, hf2.1]; rfl, ?_⟩, hB3⟩
        · show _ = _; rw [txt_data]; exact HPX.out
        · show _ = _; rw [txt_data, List.getLast?_concat]
        · intro i z hi
          rcases Nat.lt_or_ge i pre.length with h | h
          · rw [List.getElem?_append_left h] at hi
            obtain ⟨u, h1, h2⟩ := hf2.2 i z hi
            refine ⟨u, ?_, step u z.1 h2⟩
            rw [List.getElem?_append_left (by rw [hf2.1]; exact h)]; exact h1
          · rw [List.getElem?_append_right h] at hi
            have hi0 : i - pre.length = 0 := by
              have := (List.getElem?_eq_some_iff.1 hi).1
              simp at this; omega
            rw [hi0] at hi
            cases hi
            refine ⟨_, ?_, step _ _ hfv⟩
            rw [List.getElem?_append_right (by rw [hf2.1]; exact h), hf2.1, hi0]; rfl
      case measure => simp only [strLen, txt_size]; omega

end Go.Proofs.YtllkibdpjpdbbaaDoor
