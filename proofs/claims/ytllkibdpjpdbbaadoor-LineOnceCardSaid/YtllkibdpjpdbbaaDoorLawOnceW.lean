/-
  What LineOnce answers: true.
-/
import Derived.Deep.QuietTactic
import Derived.BigQuiet
import Derived.Test.YtllkibdpjpdbbaaDoorLTakeDet
import Derived.Test.YtllkibdpjpdbbaaDoorLShown
namespace Go.Proofs.YtllkibdpjpdbbaaDoor
open Go.RowKit Go.Shelf


theorem raw_map (ys : List (List UInt8)) : rawOf (ys.map txt) = ys := by
  unfold rawOf
  rw [List.map_map]
  conv => rhs; rw [← List.map_id ys]
  exact List.map_congr_left fun y _ => by simp
theorem body_mem {ys : List (List UInt8)} {y : List UInt8} (h : y ∈ ys) : y.length ≤ (bodyOf ys).length := by
  induction ys with
  | nil => cases h
  | cons z r ih =>
    rw [body_cons, List.length_append, List.length_cons]
    rcases List.mem_cons.1 h with rfl | h
    · have := (quote_len y).1; omega
    · have := ih h; omega

set_option maxRecDepth 100000 in
set_option maxHeartbeats 2000000 in
theorem lineOnce_walk (s : ByteArray) (_hs : s.size ≤ maxLen) (w : World) : Calls Tryd.prog 7 #[.string s] w (LawPost w) := by
  have HW := Lib.hid shown_any
  by_cases h14 : 14000 < s.size
  · have e1 : decide (14000 < (s.size : Int)) = true := by simp; omega
    go_enter Tryd.func7, Tryd.ntmps7
    go_wp2_with fail
    refine (HW.out _).mono ?_
    rintro e w1 ⟨rfl, hb1⟩
    go_wp2_with fail
    go_ret
    exact ⟨rfl, hb1⟩
  have e1 : decide (14000 < (s.size : Int)) = false := by simp; omega
  have hm : s.size ≤ maxLen := by unfold maxLen; omega
  obtain ⟨xs, t, c, hdet, hwhat⟩ := take_det s.data.toList
  have HT : Hid (∀ w1, Calls Tryd.prog 14 #[.string s] w1 fun e w' => ∃ o cp, e = .returned (.tuple #[.slice o xs.length cp, .string t, .int .i64 c]) ∧ ReadsO w' w'.heap.size (.slice o xs.length cp) xs ∧ Below w1.heap.size w1 w') := fun w1 => (take_any s hm w1).mono fun e w' h => hdet w1 e w' h
  clear hdet
  rcases hwhat with ⟨ys, r, ht, rfl, rfl, rfl⟩ | ⟨he, rfl, rfl⟩
  · obtain ⟨hst, hfit⟩ := take_ok ht
    have hyx : ∀ x ∈ ys.map txt, x.size ≤ 1000000 := by
      intro x hx
      obtain ⟨y, hy, rfl⟩ := List.mem_map.1 hx
      have h1 := body_mem hy
      have h2 := hfit.2.2
      rw [txt_size]; omega
    have hyl : (ys.map txt).length ≤ maxLen := by rw [List.length_map]; have := hfit.2.1; unfold maxLen; omega
    have HP : Hid (∀ w1 o cp, ReadsO w1 w1.heap.size (.slice o (ys.map txt).length cp) (ys.map txt) → Calls Tryd.prog 12 #[.slice o (ys.map txt).length cp] w1 fun e w' => e = .returned (.tuple #[.string (txt (lineOf ys)), .int .i64 0]) ∧ Below w1.heap.size w1 w') := fun w1 o cp hr =>
      (put_any _ _ w1 hr hyl hyx).mono fun e w' h => ⟨by have := h.1; rw [raw_map] at this; exact put_fit this hfit, h.2⟩
    have hcat : txt (lineOf ys) ++ txt r = s := by rw [txt_append, ← hst, txt_toList]
    have z1 : (txt (lineOf ys)).size ≤ 13000 := by rw [txt_size, line_len]; have := hfit.2.2; omega
    have z2 : (txt r).size ≤ 14000 := by
      have := congrArg List.length hst
      rw [size_list, List.length_append] at this
      rw [txt_size]; omega
    generalize txt (lineOf ys) = tl at *
    generalize txt r = tr at *
    generalize ys.map txt = xs at *
    have e2 : ((tl ++ tr).toList == s.toList) = true := by rw [hcat]; simp
    have e3 : ¬ 9223372036854775807 < tl.size + tr.size := by omega
    clear hyx hyl hst hfit ht hcat
    go_enter Tryd.func7, Tryd.ntmps7
    go_wp2_with fail
    refine (HW.out _).mono ?_
    rintro e w1 ⟨rfl, hb1⟩
    go_wp2_with fail
    refine (HT.out w1).mono ?_
    rintro e w2 ⟨o2, c2, rfl, hr2, hb2⟩
    have hB2 := below2 hb1 hb2
    have HPP := Lib.hid (HP.out w2 o2 c2 hr2)
    clear hr2
    go_wp2_with fail
    refine HPP.out.mono ?_
    rintro e w3 ⟨rfl, hb3⟩
    go_wp2_with fail
    go_ret
    exact ⟨rfl, below2 hB2 hb3⟩
  · obtain ⟨ec, _⟩ := err_code0 he
    clear he
    simp only [List.length_nil] at HT
    go_enter Tryd.func7, Tryd.ntmps7
    go_wp2_with fail
    refine (HW.out _).mono ?_
    rintro e w1 ⟨rfl, hb1⟩
    go_wp2_with fail
    refine (HT.out w1).mono ?_
    rintro e w2 ⟨o2, c2, rfl, hr2, hb2⟩
    clear hr2
    go_wp2_with fail
    go_ret
    exact ⟨rfl, below2 hb1 hb2⟩

end Go.Proofs.YtllkibdpjpdbbaaDoor
