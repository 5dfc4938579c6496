/-
  What LineTurns answers: true.
-/
import Derived.Deep.QuietTactic
import Derived.BigQuiet
import Derived.RegionTactic
import Derived.Deep.RegionHeld3
import Derived.Deep.RegionWith
import Derived.Test.YtllkibdpjpdbbaaDoorLSmall
import Derived.Test.YtllkibdpjpdbbaaDoorLShown
import Derived.Test.YtllkibdpjpdbbaaDoorLPutDet
import Derived.Test.YtllkibdpjpdbbaaDoorLScanDet
import Derived.Test.YtllkibdpjpdbbaaDoorLSHex
namespace Go.Proofs.YtllkibdpjpdbbaaDoor
open Go.RowKit Go.Shelf


theorem map_raw (xs : List ByteArray) : (rawOf xs).map txt = xs := by
  unfold rawOf
  rw [List.map_map]
  conv => rhs; rw [← List.map_id xs]
  exact List.map_congr_left fun x _ => by simp [txt_toList]
theorem builtLL {W : World} {B : Nat} {u : Value} {xs : List ByteArray} (h : ReadsO W B u xs) (hB : B ≤ W.heap.size + 1) : ReadsLL (W.alloc (.cells #[u] 22)) (W.heap.size + 1) (.slice (some ⟨W.heap.size, 0, none⟩) 1 1) [xs] := by
  refine ⟨some ⟨W.heap.size, 0, none⟩, 1, rfl, fun i ys hi => ?_⟩
  have hi0 : i = 0 := by
    have := (List.getElem?_eq_some_iff.1 hi).1
    simp at this; exact this
  subst hi0
  cases hi
  refine ⟨W.heap.size, 0, u, rfl, by omega, Nat.le_refl _, cell_at (World.alloc_heap_new W _) rfl, ?_⟩
  obtain ⟨o, c, hv, hx⟩ := h
  refine ⟨o, c, hv, fun j x hj => ?_⟩
  obtain ⟨b, f, ho, hb, hc, hcell⟩ := hx j x hj
  refine ⟨b, f, ho, by omega, hc, ?_⟩
  have hlt : b < W.heap.size := by
    unfold World.cell? at hcell
    cases hg : W.heap[b]? with
    | none => simp only [hg] at hcell; cases hcell
    | some ob => exact (Array.getElem?_eq_some_iff.1 hg).1
  exact (Below.cell (p := ⟨b, f + j, none⟩) ((Below.refl W.heap.size W).alloc (Nat.le_refl _) _) hlt).trans hcell

/-- What is scanned of one line, and of one line with another byte. -/
theorem scan_one (xs : List (List UInt8)) (h : Fit xs) : scanOf (lineOf xs) = [(xs, [])] := by
  have h1 := take_line xs h []
  rw [List.append_nil] at h1
  rw [scan_ok h1, scan_not (s := []) (by intro ys r e; rw [take_none [] (by simp)] at e; cases e)]

set_option maxRecDepth 100000 in
set_option maxHeartbeats 3000000 in
theorem lineTurns_walk (v : Value) (xs : List ByteArray) (hn : xs.length ≤ maxLen) (hz : ∀ x ∈ xs, x.size ≤ maxLen) (at' : Int) (hat : -9223372036854775808 ≤ at' ∧ at' ≤ 9223372036854775807) (c : UInt8) (w : World) (hr : ReadsO w w.heap.size v xs) : Calls Tryd.prog 6 #[v, .int .i64 at', .int .u8 c.toNat] w (LawPost w) := by
  have HW := Lib.hid shown_any
  obtain ⟨hat1, hat2⟩ := hat
  have hty := fun (w1 : World) (hb : Below w.heap.size w w1) => tiny_any (.slice (some ⟨w1.heap.size, 0, none⟩) 1 1) [xs] (w1.heap.size + 1) (w1.alloc (.cells #[v] 22)) (builtLL (hr.below hb (Nat.le_refl _)) (by have := hb.size; omega)) (by show 1 ≤ maxLen; decide) (by intro l hl; simp at hl; subst hl; exact ⟨hn, hz⟩)
  have HX : Hid (∀ wr, Below w.heap.size w wr → ReadsO wr wr.heap.size v xs) := fun wr hb => hr.below hb hb.size
  obtain ⟨o, cp, rfl, _⟩ := hr
  cases ht : tinyB [xs] with
  | false =>
    have HT : Hid (∀ w1 : World, Below w.heap.size w w1 → Calls Tryd.prog 20 #[.slice (some ⟨w1.heap.size, 0, none⟩) 1 1] (w1.alloc (.cells #[.slice o xs.length cp] 22)) fun e w' => e = .returned (.bool false) ∧ w1.alloc (.cells #[.slice o xs.length cp] 22) = w') := fun w1 hb => by
      have := hty w1 hb
      unfold TinyPost at this
      rwa [ht] at this
    clear hty ht hz
    go_enter Tryd.func6, Tryd.ntmps6
    go_wp2_with fail
    refine (HW.out _).mono ?_
    rintro e w1 ⟨rfl, hb1⟩
    go_wp2_with fail
    refine (HT.out w1 hb1).mono ?_
    rintro e w2 ⟨rfl, rfl⟩
    go_wp2_with fail
    go_ret
    exact ⟨rfl, hb1.alloc hb1.size _⟩
  | true =>
    have HT : Hid (∀ w1 : World, Below w.heap.size w w1 → Calls Tryd.prog 20 #[.slice (some ⟨w1.heap.size, 0, none⟩) 1 1] (w1.alloc (.cells #[.slice o xs.length cp] 22)) fun e w' => e = .returned (.bool true) ∧ w1.alloc (.cells #[.slice o xs.length cp] 22) = w') := fun w1 hb => by
      have := hty w1 hb
      unfold TinyPost at this
      rwa [ht] at this
    obtain ⟨_, hta⟩ := tiny_all ht
    obtain ⟨h50, h60⟩ := hta xs (by simp)
    clear hty ht hz hta
    by_cases h10 : c.toNat = 10
    · have e1 : ((c.toNat : Int) == 10) = true := by simp; omega
      clear h10
      go_enter Tryd.func6, Tryd.ntmps6
      go_wp2_with fail
      refine (HW.out _).mono ?_
      rintro e w1 ⟨rfl, hb1⟩
      go_wp2_with fail
      refine (HT.out w1 hb1).mono ?_
      rintro e w2 ⟨rfl, rfl⟩
      go_wp2_with fail
      go_ret
      exact ⟨rfl, hb1.alloc hb1.size _⟩
    have e1 : ((c.toNat : Int) == 10) = false := by simp; omega
    have hcn : nlB c = false := by simp [nlB]; exact h10
    obtain ⟨t, cd, hdet, hfit, hnofit⟩ := put_det (rawOf xs)
    have HP : Hid (∀ w1 : World, Below w.heap.size w w1 → Calls Tryd.prog 12 #[.slice o xs.length cp] w1 fun e w' => e = .returned (.tuple #[.string t, .int .i64 cd]) ∧ Below w1.heap.size w1 w') := fun w1 hb =>
      (put_any _ xs w1 (HX.out w1 hb) hn (fun x hx => by have := h60 x hx; omega)).mono fun e w' h => ⟨hdet e h.1, h.2⟩
    clear hdet h60 h10
    by_cases hf : Fit (rawOf xs)
    · obtain ⟨htt, rfl⟩ := hfit hf
      have htz : t.size = (bodyOf (rawOf xs)).length + 9 := by rw [htt, txt_size, line_len]
      have htb : t.size ≤ 13000 := by have := hf.2.2; omega
      have htb1 : 9 ≤ t.size := by omega
      by_cases hneg : at' < 0
      · have e2 : decide (at' < 0) = true := by simp; omega
        clear hfit hnofit htt htz
        go_enter Tryd.func6, Tryd.ntmps6
        go_wp2_with fail
        refine (HW.out _).mono ?_
        rintro e w1 ⟨rfl, hb1⟩
        go_wp2_with fail
        refine (HT.out w1 hb1).mono ?_
        rintro e w2 ⟨rfl, rfl⟩
        go_wp2_with fail
        refine (HP.out _ (hb1.alloc hb1.size _)).mono ?_
        rintro e w3 ⟨rfl, hb3⟩
        go_wp2_with fail
        go_ret
        exact ⟨rfl, below2 (hb1.alloc hb1.size _) hb3⟩
      have e2 : decide (at' < 0) = false := by simp; omega
      by_cases hbig : (t.size : Int) - 1 ≤ at'
      · have e3 : decide ((t.size : Int) - 1 ≤ at') = true := by simp; omega
        clear hfit hnofit htt htz
        go_enter Tryd.func6, Tryd.ntmps6
        go_wp2_with fail
        refine (HW.out _).mono ?_
        rintro e w1 ⟨rfl, hb1⟩
        go_wp2_with fail
        refine (HT.out w1 hb1).mono ?_
        rintro e w2 ⟨rfl, rfl⟩
        go_wp2_with fail
        refine (HP.out _ (hb1.alloc hb1.size _)).mono ?_
        rintro e w3 ⟨rfl, hb3⟩
        go_wp2_with fail
        go_ret
        exact ⟨rfl, below2 (hb1.alloc hb1.size _) hb3⟩
      have e3 : decide ((t.size : Int) - 1 ≤ at') = false := by simp; omega
      obtain ⟨k, rfl⟩ : ∃ k : Nat, at' = (k : Int) := Int.eq_ofNat_of_zero_le (by omega)
      have hk1 : k + 1 ≤ t.size := by omega
      have hk0 : k ≤ t.size := by omega
      have hkl : k + 1 < (lineOf (rawOf xs)).length := by rw [line_len]; omega
      obtain ⟨T, hT⟩ : ∃ T, T = t.extract 0 k ++ txt [c] ++ t.extract (k + 1) t.size := ⟨_, rfl⟩
      have hTl : T = txt ((lineOf (rawOf xs)).take k ++ c :: (lineOf (rawOf xs)).drop (k + 1)) := by
        rw [hT, htt, extract_txt, extract_txt, take_rest, txt_data, txt_append, txt_append, List.drop_zero, Nat.sub_zero]; simp
      have hTz : T.size ≤ 13000 := by
        rw [hTl, txt_size]
        have := hf.2.2
        rw [line_len] at hkl
        simp only [List.length_append, List.length_take, List.length_cons, List.length_drop, line_len]; omega
      have z1 : (t.extract 0 k).size = k := by rw [ByteArray.size_extract]; omega
      have z2 : (t.extract 0 k ++ txt [c]).size = k + 1 := by rw [ByteArray.size_append, z1, txt_size]; rfl
      have z3 : (t.extract (k + 1) t.size).size = t.size - (k + 1) := by rw [ByteArray.size_extract]; omega
      have hsc := fun w1 => (scan_any T (by omega) w1).mono fun e w' h => scan_shape h
      have HTE := Lib.hid hT
      by_cases hsame : T = t
      · have hso : scanOf T.data.toList = [(rawOf xs, [])] := by rw [hsame, htt, txt_data, scan_one _ hf]
        have hei : endI T.data.toList [(rawOf xs, [])] = (t.size : Int) := by rw [hsame]; unfold endI; simp
        rw [hso, hei] at hsc
        simp only [List.map_cons, List.map_nil, map_raw, List.length_cons, List.length_nil] at hsc
        have HSC := Lib.hid hsc
        have e4 : (T.toList == t.toList) = true := by rw [hsame]; simp
        have e5 : ((t.size : Int) == (t.size : Int)) = true := by simp
        clear hsc hso hei hfit hnofit htt htz hTl hT hsame hneg hbig hkl hf
        go_enter Tryd.func6, Tryd.ntmps6
        go_wp2_with fail
        refine (HW.out _).mono ?_
        rintro e w1 ⟨rfl, hb1⟩
        go_wp2_with fail
        refine (HT.out w1 hb1).mono ?_
        rintro e w2 ⟨rfl, rfl⟩
        go_wp2_with fail
        refine (HP.out _ (hb1.alloc hb1.size _)).mono ?_
        rintro e w3 ⟨rfl, hb3⟩
        have hB3 := below2 (hb1.alloc hb1.size _) hb3
        have hcv : (convert 39 9 (.slice (some ⟨w3.heap.size, 0, none⟩) 1 1)).run Tryd.prog (w3.alloc (.cells #[.int .u8 c.toNat] 5)).drew = .ok (.string (txt [c])) (w3.alloc (.cells #[.int .u8 c.toNat] 5)).drew := conv_new_drew w3 [c] 5 1
        go_wp2_with fail
        go_region
        rw [← HTE.out]
        have hb4 : Below w3.heap.size w3 (w3.alloc (.cells #[.int .u8 c.toNat] 5)).drew := ((Below.refl _ _).alloc (Nat.le_refl _) _).drew
        clear hcv HTE
        generalize (w3.alloc (.cells #[.int .u8 c.toNat] 5)).drew = w4 at *
        have hB4 := below2 hB3 hb4
        go_wp2_with fail
        refine (HSC.out w4).mono ?_
        rintro e w5 ⟨o5, c5, rfl, hr5, hb5⟩
        have hB5 := below2 hB4 hb5
        have hS := sameAll_any _ (.slice (some ⟨w5.heap.size, 0, none⟩) 1 1) [xs] [xs] (w5.heap.size + 1) (w5.alloc (.cells #[.slice o xs.length cp] 22)) (hr5.below ((Below.refl _ _).alloc (Nat.le_refl _) _) (by omega)) (builtLL (HX.out w5 hB5) (by omega)) (by show 1 ≤ maxLen; decide) (by intro l hl; simp at hl; subst hl; exact hn)
        rw [decide_eq_true rfl] at hS
        have HS := Lib.hid hS
        clear hS hr5
        go_wp2_with fail
        refine HS.out.mono ?_
        rintro e w6 ⟨rfl, hb6⟩
        go_wp2_with fail
        go_ret
        refine ⟨rfl, below2 (hB5.alloc hB5.size _) hb6⟩
      · have hso : scanOf T.data.toList = [] := by
          rw [hTl, txt_data]
          refine scan_not (line_turned (rawOf xs) k hkl c hcn ?_)
          intro e
          apply hsame
          have hk2 : k < (lineOf (rawOf xs)).length := by omega
          have e' : (lineOf (rawOf xs))[k] = c := by rw [List.getElem?_eq_getElem hk2] at e; exact Option.some.inj e
          rw [hTl, htt, ← e', ← List.drop_eq_getElem_cons hk2, List.take_append_drop]
        have hei : endI T.data.toList [] = 0 := rfl
        rw [hso, hei] at hsc
        simp only [List.map_nil, List.length_nil] at hsc
        have HSC := Lib.hid hsc
        have e4 : (T.toList == t.toList) = false := by rw [str_eq, decide_eq_false hsame]
        clear hsc hso hei hfit hnofit htt htz hTl hT hsame hneg hbig hkl hf
        go_enter Tryd.func6, Tryd.ntmps6
        go_wp2_with fail
        refine (HW.out _).mono ?_
        rintro e w1 ⟨rfl, hb1⟩
        go_wp2_with fail
        refine (HT.out w1 hb1).mono ?_
        rintro e w2 ⟨rfl, rfl⟩
        go_wp2_with fail
        refine (HP.out _ (hb1.alloc hb1.size _)).mono ?_
        rintro e w3 ⟨rfl, hb3⟩
        have hB3 := below2 (hb1.alloc hb1.size _) hb3
        have hcv : (convert 39 9 (.slice (some ⟨w3.heap.size, 0, none⟩) 1 1)).run Tryd.prog (w3.alloc (.cells #[.int .u8 c.toNat] 5)).drew = .ok (.string (txt [c])) (w3.alloc (.cells #[.int .u8 c.toNat] 5)).drew := conv_new_drew w3 [c] 5 1
        go_wp2_with fail
        go_region
        rw [← HTE.out]
        have hb4 : Below w3.heap.size w3 (w3.alloc (.cells #[.int .u8 c.toNat] 5)).drew := ((Below.refl _ _).alloc (Nat.le_refl _) _).drew
        clear hcv HTE
        generalize (w3.alloc (.cells #[.int .u8 c.toNat] 5)).drew = w4 at *
        have hB4 := below2 hB3 hb4
        go_wp2_with fail
        refine (HSC.out w4).mono ?_
        rintro e w5 ⟨o5, c5, rfl, hr5, hb5⟩
        have hB5 := below2 hB4 hb5
        clear hr5
        go_wp2_with fail
        go_ret
        exact ⟨rfl, hB5⟩
    · have hcd : (cd != 0) = true := by
        obtain ⟨_, h1, h3⟩ := hnofit hf
        by_cases h0 : rawOf xs = []
        · rw [h1 h0]; rfl
        · rw [h3 h0]; rfl
      clear hfit hnofit hf
      go_enter Tryd.func6, Tryd.ntmps6
      go_wp2_with fail
      refine (HW.out _).mono ?_
      rintro e w1 ⟨rfl, hb1⟩
      go_wp2_with fail
      refine (HT.out w1 hb1).mono ?_
      rintro e w2 ⟨rfl, rfl⟩
      go_wp2_with fail
      refine (HP.out _ (hb1.alloc hb1.size _)).mono ?_
      rintro e w3 ⟨rfl, hb3⟩
      go_wp2_with fail
      go_ret
      exact ⟨rfl, below2 (hb1.alloc hb1.size _) hb3⟩

end Go.Proofs.YtllkibdpjpdbbaaDoor
