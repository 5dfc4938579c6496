/-
  ParseCuts, over what each call of Parse and of Cut tells: it answers true, and turns nothing that lay there. For every text, every row of signs.
-/
import Derived.Test.YtldddecaeloohaaDoorPSh
namespace Go.Proofs.YtldddecaeloohaaDoor
open Go.RowKit Go.Shelf
attribute [local go_sem] Oper.semAt_some

set_option maxRecDepth 100000 in
set_option maxHeartbeats 8000000 in
theorem parseCuts_over (HP : ParseC) (HC : CutC) (s0 : ByteArray) (_hs0 : s0.size ≤ maxLen) (v1 : Value) (xs1 : List ByteArray) (hn1 : xs1.length ≤ maxLen) (_hz1 : ∀ x ∈ xs1, x.size ≤ maxLen) (w : World) (hr1 : ReadsO w w.heap.size v1 xs1) :
    Calls Tryd.prog 5 #[.string s0, v1] w (LawPost w) := by
  have HSh := Lib.hid (shown9_at HP w w (Below.refl _ _))
  obtain ⟨sg, hsg⟩ : ∃ sg : List BS, xs1 = sg.map txt := ⟨xs1.map (·.data.toList), by rw [List.map_map]; conv => lhs; rw [← List.map_id xs1]
                                                                                      exact List.map_congr_left fun x _ => (txt_toList x).symm⟩
  subst hsg
  rw [List.length_map] at hn1
  obtain ⟨o, c, rfl, hx⟩ := id hr1
  have HR := Lib.hid hr1
  rw [List.length_map] at hx HR ⊢
  obtain ⟨n, hn⟩ : ∃ n, n = sg.length := ⟨_, rfl⟩
  rw [← hn] at hx HR hn1 ⊢
  have HX : Hid (∀ k x, sg[k]? = some x → ∃ b f, o = some ⟨b, f, none⟩ ∧ n ≤ c ∧ ∀ W, Below w.heap.size w W → W.cell? ⟨b, f + k, none⟩ = some (.string (txt x))) := fun k x hk => by
    obtain ⟨b, f, h1, h2, h3, h4⟩ := hx k (txt x) (by rw [List.getElem?_map, hk]; rfl)
    exact ⟨b, f, h1, h3, fun W hb => (hb.cell (p := ⟨b, f + k, none⟩) h2).trans h4⟩
  have HN := Lib.hid hn
  clear hx hn hr1
  have hnm : n ≤ 9223372036854775807 := hn1
  have hsm : s0.size ≤ 9223372036854775807 := _hs0
  by_cases h1000 : 1000 < s0.size
  · have d1 : decide ((1000 : Int) < (s0.size : Int)) = true := decide_eq_true (by omega)
    go_enter Tryd.func5, Tryd.ntmps5
    go_wp2_with (go_at_call 10; refine HSh.out.mono ?_; rintro e w1 ⟨rfl, hb1⟩)
    go_ret
    exact ⟨rfl, hb1⟩
  have d1 : decide ((1000 : Int) < (s0.size : Int)) = false := decide_eq_false (by omega)
  by_cases h10 : 10 < n
  · have d2 : decide ((10 : Int) < (n : Int)) = true := decide_eq_true (by omega)
    go_enter Tryd.func5, Tryd.ntmps5
    go_wp2_with (go_at_call 10; refine HSh.out.mono ?_; rintro e w1 ⟨rfl, hb1⟩)
    go_ret
    exact ⟨rfl, hb1⟩
  have d2 : decide ((10 : Int) < (n : Int)) = false := decide_eq_false (by omega)
  go_enter Tryd.func5, Tryd.ntmps5
  go_wp2_with (go_at_call 10; refine HSh.out.mono ?_; rintro e w1 ⟨rfl, hb1⟩)
  have HB1 := Lib.hid hb1
  clear hb1
  go_loop [6] (fun iv => ∃ i : Nat, i ≤ n ∧ iv = .int .i64 i ∧ ∀ x ∈ sg.take i, x.length ≤ 20) (fun iv => n - (intOf iv).toNat)
  case atStart => exact ⟨0, Nat.zero_le _, rfl, by simp⟩
  case round =>
    obtain ⟨i, hi, rfl, hsm2⟩ := hrel
    by_cases hin : i < n
    · obtain ⟨x, hxi⟩ : ∃ x, sg[i]? = some x := ⟨sg[i]'(by rw [← HN.out]; exact hin), List.getElem?_eq_getElem _⟩
      obtain ⟨b, f, rfl, hnc, hc⟩ := HX.out i x hxi
      have hcell := hc w1 HB1.out
      by_cases h20 : 20 < x.length
      · have d3 : decide ((20 : Int) < (x.length : Int)) = true := decide_eq_true (by omega)
        clear hc hsm2 hxi
        go_wp2
        go_ret
        exact ⟨rfl, HB1.out⟩
      · have d3 : decide ((20 : Int) < (x.length : Int)) = false := decide_eq_false (by omega)
        have HS : Hid (∀ y ∈ sg.take (i + 1), y.length ≤ 20) := fun y hy => by
          rw [List.take_add_one, hxi] at hy
          rcases List.mem_append.1 hy with hy | hy
          · exact hsm2 y hy
          · simp at hy; rw [hy]; omega
        clear hc hsm2 hxi
        go_wp2
        go_round
        case rel => exact ⟨i + 1, hin, by go_num, HS.out⟩
        case measure => simp [intOf]; omega
    · have hall : ∀ x ∈ sg, x.length ≤ 20 := fun x hx => hsm2 x (by rw [List.take_of_length_le (by rw [← HN.out]; omega)]; exact hx)
      obtain ⟨k, hk⟩ : ∃ k, k = cutOf sg s0.data.toList := ⟨_, rfl⟩
      have H1 : Hid (Calls Tryd.prog 19 #[.string s0, .slice o n c] w1 (Cut3Post k w1)) := by
        show Calls _ _ _ _ _
        rw [hk]
        exact HC _ sg s0 w1 (HR.out.below HB1.out HB1.out.size) (by rw [← HN.out]; omega) (fun x hx => Nat.le_trans (hall x hx) (by omega)) (by omega)
      have H2 : Hid (∀ W, Below w1.heap.size w1 W → Calls Tryd.prog 20 #[.string s0, .slice o n c] W (Cut3Post k W)) := fun W hW => by
        rw [hk]
        exact cut9_any _ sg s0 W (HR.out.below (HB1.out.trans (hW.mono HB1.out.size)) (Nat.le_trans HB1.out.size hW.size)) (by rw [← HN.out]; omega) (fun x hx => Nat.le_trans (hall x hx) (by omega)) (by omega)
      obtain ⟨k1, k2, k3⟩ := k
      clear hall hk hsm2 HX HR
      go_wp2_with fail
      refine H1.out.mono ?_
      rintro e w2 ⟨rfl, hb2⟩
      go_wp2_with fail
      refine (H2.out w2 hb2).mono ?_
      rintro e w3 ⟨rfl, hb3⟩
      go_wp2
      go_ret
      exact ⟨by simp, HB1.out.trans ((hb2.trans (hb3.mono hb2.size)).mono HB1.out.size)⟩
end Go.Proofs.YtldddecaeloohaaDoor
