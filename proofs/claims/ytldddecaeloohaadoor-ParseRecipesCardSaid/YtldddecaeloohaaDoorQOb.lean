/-
  What the program's firstWord answers. For every text of at most a million bytes. No condition.
-/
import Derived.Test.YtldddecaeloohaaDoorQR
namespace Go.Proofs.YtldddecaeloohaaDoor
open Go.RowKit Go.Shelf
attribute [local go_sem] Oper.semAt_some

set_option maxRecDepth 100000 in
set_option maxHeartbeats 4000000 in
theorem firstWord_any (s : ByteArray) (hs : s.size ≤ 1000000) (w : World) : Calls Tryd.prog 45 #[.string s] w fun e w' => e = .returned (.tuple #[.string (txt (fwd s.data.toList).1), .string (txt (fwd s.data.toList).2)]) ∧ Below w.heap.size w w' := by
  have HW := Lib.hid (words_any s (by omega) w)
  rw [words_is] at HW
  have HT := Lib.hid (trimQ s hs)
  obtain ⟨x, hx⟩ : ∃ x, x = trimOf s.data.toList := ⟨_, rfl⟩
  rw [← hx] at HT
  have hxl := trim_len s.data.toList
  rw [← hx, size_list] at hxl
  obtain ⟨ws, hws⟩ : ∃ ws, ws = wordsL s.data.toList := ⟨_, rfl⟩
  rw [← hws] at HW
  cases ws with
  | nil =>
    rw [fwd_nil hws.symm]
    clear hws hx
    go_enter Tryd.func45, Tryd.ntmps45
    go_wp2_with fail
    refine HW.out.mono ?_
    rintro e w1 ⟨v, rfl, hr, hb1⟩
    obtain ⟨o, c, rfl, _⟩ := hr.o
    clear hr
    simp only [List.map_nil, List.length_nil]
    go_wp2
    go_ret2
    exact ⟨rfl, hb1⟩
  | cons wd ws =>
    rw [fwd_cons hws.symm]
    have hpre := fwd_prefix hws.symm
    rw [← hx] at hpre
    obtain ⟨rs, hrs⟩ : ∃ rs, rs = restL (trimOf s.data.toList) wd := ⟨_, rfl⟩
    have HP := Lib.hid (trimPrefix_any (txt x) (txt wd))
    rw [txt_data, txt_data, hpre] at HP
    have HT2 := Lib.hid (trimQ (txt (x.drop wd.length)) (by rw [txt_size, List.length_drop]; omega))
    rw [txt_data] at HT2
    have hrs2 : trimOf (x.drop wd.length) = rs := by rw [hrs, hx]; rfl
    rw [hrs2] at HT2
    rw [← hrs]
    obtain ⟨nw, hnw⟩ : ∃ nw, nw = (wd :: ws).length := ⟨_, rfl⟩
    have hn0 : 0 < nw := by rw [hnw]; simp
    have hn1 : nw ≤ 1000001 := by
      have h1 := pieces_len blankB s.data.toList
      have h2 : (wordsL s.data.toList).length ≤ (pieces blankB s.data.toList).length := List.length_filter_le _ _
      rw [size_list] at h1
      rw [hnw, hws]; omega
    generalize x.drop wd.length = xd at HP HT2
    clear hws hx hpre hrs hrs2
    go_enter Tryd.func45, Tryd.ntmps45
    go_wp2_with fail
    refine HW.out.mono ?_
    rintro e w1 ⟨v, rfl, hr, hb1⟩
    obtain ⟨o, c, rfl, hcx⟩ := hr.o
    obtain ⟨b, f, rfl, hlt, hc, hcell⟩ := hcx 0 (txt wd) rfl
    rw [List.length_map] at hc hcx ⊢
    rw [← hnw] at hc ⊢
    rw [Nat.add_zero] at hcell
    clear hr hcx hnw HW
    have HCell : Hid (∀ W, Below w1.heap.size w1 W → W.cell? ⟨b, f, none⟩ = some (.string (txt wd))) := fun W hb => (hb.cell (p := ⟨b, f, none⟩) hlt).trans hcell
    have hcd : w1.drew.cell? ⟨b, f, none⟩ = some (.string (txt wd)) := hcell
    have e0 : ((nw : Int) == 0) = false := by simp; omega
    go_wp2_with fail
    go_region_held3 (fun W => W.cell? ⟨b, f, none⟩ = some (.string (txt wd)))
      (first | assumption)
      (first
        | (go_at_call 44; refine (HT.out _).mono ?_; rintro e w2 ⟨rfl, hb2⟩; have hc2 : w2.cell? ⟨b, f, none⟩ = some (.string (txt wd)) := HCell.out w2 (by first | exact hb2 | exact (drewN_below' (Below.refl _ _)).trans hb2))
        | (go_at_call 59; refine (HP.out _).mono ?_; rintro e w3 ⟨rfl, hw3⟩; obtain rfl := hw3.symm))
    have hcd2 : w2.drew.cell? ⟨b, f, none⟩ = some (.string (txt wd)) := hc2
    have HB2 : Hid (Below w.heap.size w w2) := (show Below w.heap.size w w1.drew from drewN_below' hb1).trans (hb2.mono (show w.heap.size ≤ w1.drew.heap.size from hb1.size))
    have hb2' : Hid (Below w1.heap.size w1 w2.drew) := drewN_below' ((show Below w1.heap.size w1 w1.drew from drewN_below' (Below.refl _ _)).trans hb2)
    clear HT HP hcd hcell
    go_wp2_with fail
    go_region_held3 (fun W => W.cell? ⟨b, f, none⟩ = some (.string (txt wd)))
      (first | assumption)
      (first
        | (go_at_call 44; refine (HT2.out _).mono ?_; rintro e w3 ⟨rfl, hb3⟩; have hc3 : w3.cell? ⟨b, f, none⟩ = some (.string (txt wd)) := HCell.out w3 (by first | exact (hb2'.out).trans (hb3.mono hb2'.out.size))))
    go_wp2
    go_ret2
    exact ⟨rfl, (show Below w.heap.size w w2.drew from drewN_below' HB2.out).trans (hb3.mono (show w.heap.size ≤ w2.drew.heap.size from HB2.out.size))⟩
end Go.Proofs.YtldddecaeloohaaDoor
