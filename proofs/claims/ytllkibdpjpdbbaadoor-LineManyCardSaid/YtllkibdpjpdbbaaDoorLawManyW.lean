/-
  What LineMany answers: true.
-/
import Derived.Deep.QuietTactic
import Derived.BigQuiet
import Derived.Test.YtllkibdpjpdbbaaDoorLSmall
import Derived.Test.YtllkibdpjpdbbaaDoorLShown
import Derived.Test.YtllkibdpjpdbbaaDoorLFitRows
import Derived.Test.YtllkibdpjpdbbaaDoorLRMath
namespace Go.Proofs.YtllkibdpjpdbbaaDoor
open Go.RowKit Go.Shelf


set_option maxRecDepth 100000 in
set_option maxHeartbeats 4000000 in
theorem lineMany_walk (v : Value) (xss : List (List ByteArray)) (hn : xss.length ≤ maxLen) (hz : ∀ l ∈ xss, l.length ≤ maxLen ∧ ∀ x ∈ l, x.size ≤ maxLen) (tail : ByteArray) (_htl : tail.size ≤ maxLen) (w : World) (hr : ReadsLL w w.heap.size v xss) : Calls Tryd.prog 9 #[v, .string tail] w (LawPost w) := by
  obtain ⟨i0, hi, hz0, hz1, hz2⟩ := info_parts infoList
  have HW := Lib.hid shown_any
  have hty := fun (w1 : World) (hb : Below w.heap.size w w1) => tiny_any v xss w.heap.size w1 (hr.below hb (Nat.le_refl _)) hn hz
  have HR := Lib.hid hr
  obtain ⟨o, cp, rfl, hrx⟩ := hr
  have HRX := Lib.hid hrx
  clear hrx
  cases ht : tinyB xss with
  | false =>
    have HT : Hid (∀ w1 : World, Below w.heap.size w w1 → Calls Tryd.prog 20 #[.slice o xss.length cp] w1 fun e w' => e = .returned (.bool false) ∧ w1 = w') := fun w1 hb => by
      have := hty w1 hb
      unfold TinyPost at this
      rwa [ht] at this
    clear hty ht hz
    go_enter Tryd.func9, Tryd.ntmps9
    go_wp2_with fail
    refine (HW.out _).mono ?_
    rintro e w1 ⟨rfl, hb1⟩
    go_wp2_with fail
    refine (HT.out w1 hb1).mono ?_
    rintro e w2 ⟨rfl, rfl⟩
    go_wp2_with fail
    go_ret
    exact ⟨rfl, hb1⟩
  | true =>
    have HT : Hid (∀ w1 : World, Below w.heap.size w w1 → Calls Tryd.prog 20 #[.slice o xss.length cp] w1 fun e w' => e = .returned (.bool true) ∧ w1 = w') := fun w1 hb => by
      have := hty w1 hb
      unfold TinyPost at this
      rwa [ht] at this
    obtain ⟨h12, hta⟩ := tiny_all ht
    have HTA := Lib.hid hta
    clear hty ht hz hta
    by_cases h200 : 200 < tail.size
    · have e1 : decide (200 < (tail.size : Int)) = true := by simp; omega
      go_enter Tryd.func9, Tryd.ntmps9
      go_wp2_with fail
      refine (HW.out _).mono ?_
      rintro e w1 ⟨rfl, hb1⟩
      go_wp2_with fail
      refine (HT.out w1 hb1).mono ?_
      rintro e w2 ⟨rfl, rfl⟩
      go_wp2_with fail
      go_ret
      exact ⟨rfl, hb1⟩
    have e1 : decide (200 < (tail.size : Int)) = false := by simp; omega
    go_enter Tryd.func9, Tryd.ntmps9
    go_wp2_with fail
    refine (HW.out _).mono ?_
    rintro e w1 ⟨rfl, hb1⟩
    go_wp2_with fail
    refine (HT.out w1 hb1).mono ?_
    rintro e w2 ⟨rfl, rfl⟩
    go_wp2_with fail
    go_loop [7] (fun iv => ∃ k : Nat, k ≤ tail.size ∧ iv = .int .i64 k ∧ Hid (∀ c ∈ tail.data.toList.take k, nlB c = false)) (fun iv => tail.size - (intOf iv).toNat)
    case atStart => exact ⟨0, Nat.zero_le _, rfl, (by intro c hc; simp at hc)⟩
    case round =>
      obtain ⟨k, hk, rfl, HNO⟩ := hrel
      by_cases hlt : k < tail.size
      · have hlt' : k < tail.data.toList.length := by rw [Array.length_toList]; exact hlt
        have hgk : tail.data.toList[k] = tail[k] := by rw [Array.getElem_toList]; rfl
        by_cases h10 : tail[k].toNat = 10
        · have e2 : ((tail[k].toNat : Int) == 10) = true := by simp; omega
          clear hgk h10 HNO
          go_wp2_with fail
          go_ret
          exact ⟨rfl, hb1⟩
        · have e2 : ((tail[k].toNat : Int) == 10) = false := by simp; omega
          have HN : Hid (∀ c ∈ tail.data.toList.take (k + 1), nlB c = false) := no_next HNO.out hlt' (by rw [hgk]; simp [nlB]; exact h10)
          clear hgk h10 HNO
          go_wp2_with fail
          go_round
          case rel => exact ⟨k + 1, hlt, by go_num, HN⟩
          case measure => simp [intOf]; omega
      · have htk : ∀ xs r, takeOf tail.data.toList ≠ .ok xs r := by
          intro xs r e
          have := HNO.out
          rw [List.take_of_length_le (by rw [size_list]; omega)] at this
          rw [take_none _ this] at e; cases e
        have HTK := Lib.hid htk
        clear htk HNO
        go_wp2_with fail
        go_loopw [8, 9, 10] (fun sv inv iv wr => ∃ (k : Nat) (s : ByteArray) (fs : List (List ByteArray)) (us : List Value), k ≤ xss.length ∧ iv = .int .i64 k ∧ sv = .string s ∧ Hid (s = txt (linesOfAll (fs.map rawOf))) ∧ s.size ≤ 13000 * k ∧ fs.length ≤ k ∧ Hid (∀ l ∈ fs, Fit (rawOf l)) ∧
          wr.ownsRow w.heap.size 22 1 inv fs.length us ∧ Hid (EachReads w us fs) ∧ Below w.heap.size w wr) (fun _ _ iv _ => xss.length - (intOf iv).toNat)
        case atStart => exact ⟨0, _, [], [], Nat.zero_le _, rfl, rfl, rfl, by decide, Nat.le_refl _, (by intro l hl; cases hl), World.ownsRow_nil _ _ _ _, ⟨rfl, by simp⟩, hb1⟩
        case round =>
          obtain ⟨k, s, fs, us, hk, rfl, rfl, HS, hsz, hfl, HF, hown, HE, hB⟩ := hrel
          have hsw := hB.size
          obtain ⟨vo, vc, rfl⟩ := ownsRow_shape hown
          by_cases hlt : k < xss.length
          · obtain ⟨b, f, u, rfl, hbB, hkc, hcell0, hu⟩ := HRX.out k xss[k] (List.getElem?_eq_getElem hlt)
            have hkc' : k < cp := by omega
            have hcell : wr.cell? ⟨b, f + k, none⟩ = some u := (hB.cell (p := ⟨b, f + k, none⟩) hbB).trans hcell0
            obtain ⟨h50, h60⟩ := HTA.out _ (List.getElem_mem hlt)
            have hp := put_any u xss[k] wr (hu.below hB hsw) (by unfold maxLen; omega) (fun x hx => by have := h60 x hx; omega)
            obtain ⟨t, cd, hdet, hfit, hnofit⟩ := put_det (rawOf xss[k])
            have HP : Hid (Calls Tryd.prog 12 #[u] wr fun e w' => e = .returned (.tuple #[.string t, .int .i64 cd]) ∧ Below wr.heap.size wr w') := hp.mono fun e w' h => ⟨hdet e h.1, h.2⟩
            have HU := Lib.hid hu
            obtain ⟨uo, uc, rfl, _⟩ := hu
            clear hp hdet h60 hcell0
            by_cases hf : Fit (rawOf xss[k])
            · obtain ⟨htt, rfl⟩ := hfit hf
              have htz : t.size ≤ 13000 := by rw [htt, txt_size, line_len]; have := hf.2.2; omega
              have HS2 : Hid (s ++ t = txt (linesOfAll ((fs ++ [xss[k]]).map rawOf))) := by show _ = _; rw [lines_snoc, HS.out, htt, txt_append]
              have HF2 : Hid (∀ l ∈ fs ++ [xss[k]], Fit (rawOf l)) := fit_snoc HF.out hf
              have HE2 : Hid (EachReads w (us ++ [.slice uo xss[k].length uc]) (fs ++ [xss[k]])) := HE.out.snoc HU.out
              have z1 : (s ++ t).size = s.size + t.size := ByteArray.size_append ..
              have e3 : ¬ 9223372036854775807 < s.size + t.size := by omega
              have hml : fs.length + 1 ≤ maxLen := by unfold maxLen; omega
              have hcellw : ∀ w2, Below wr.heap.size wr w2 → w2.cell? ⟨b, f + k, none⟩ = some (.slice uo xss[k].length uc) := fun w2 hb2 => (hb2.cell (p := ⟨b, f + k, none⟩) (by show b < wr.heap.size; omega)).trans hcell
              have HCW := Lib.hid hcellw
              clear hfit hnofit hf htt HS HF HE HU hcellw
              generalize xss[k] = l at *
              go_wp2_with fail
              refine HP.out.mono ?_
              rintro e w2 ⟨rfl, hb2⟩
              have hB2 := hB.trans (hb2.mono hsw)
              have hsw2 := hB2.size
              have hown2 := ownsRow_below hown hb2
              have hcell2 := HCW.out w2 hb2
              clear hown hcell
              go_wp2_with (at_builtin; refine wpList_append_own _ rfl _ _ 30 rfl w.heap.size 22 i0 (.slice none 0 0) 1 24 Tryd.underlying30 hi hz0 hz1 hz2 rfl (by decide) _ _ _ rfl (hown2.alloc _) ⟨w2.heap.size, 0, none⟩ 1 1 [.slice uo l.length uc] rfl rfl (cell_one_new _ _ _) (by simp [Value.oneCell']) hml (by omega) (by simp; omega) ?_; intro v' w3 hown' hgrow _)
              have hB3 := (hB2.alloc hsw2 (.cells #[.slice uo l.length uc] 22)).grown hgrow (by simp; omega) (fun j ej => (hown2.lt j ej).1)
              go_roundw
              case rel => exact ⟨k + 1, s ++ t, fs ++ [l], us ++ [.slice uo l.length uc], hlt, by go_num, rfl, HS2.out, by omega, by simp; omega, HF2.out, by simpa using hown', HE2, hB3⟩
              case measure => simp [intOf]; omega
            · have hcd : (cd == 0) = false := by
                obtain ⟨_, h1, h3⟩ := hnofit hf
                by_cases h0 : rawOf xss[k] = []
                · rw [h1 h0]; rfl
                · rw [h3 h0]; rfl
              clear hfit hnofit hf HU
              generalize xss[k] = l at *
              go_wp2_with fail
              refine HP.out.mono ?_
              rintro e w2 ⟨rfl, hb2⟩
              have hB2 := hB.trans (hb2.mono hsw)
              have hown2 := ownsRow_below hown hb2
              clear hown hcell
              go_wp2_with fail
              go_roundw
              case rel => exact ⟨k + 1, s, fs, us, hlt, by go_num, rfl, HS.out, by omega, by omega, HF.out, hown2, HE, hB2⟩
              case measure => simp [intOf]; omega
          · have hsz2 : s.size ≤ 156000 := by omega
            have hcat : s ++ tail = txt (linesOfAll (fs.map rawOf) ++ tail.data.toList) := by rw [HS.out]; conv => lhs; rw [← txt_toList tail]; rw [txt_append]
            obtain ⟨hsa1, hsa2⟩ := scan_all fs tail.data.toList HF.out HTK.out
            have hslen : (linesOfAll (fs.map rawOf)).length = s.size := by rw [HS.out, txt_size]
            rw [hslen] at hsa2
            have hsc := fun w1 => (scan_any (s ++ tail) (by rw [ByteArray.size_append]; omega) w1).mono fun e w' h => scan_shape h
            have hd : (s ++ tail).data.toList = linesOfAll (fs.map rawOf) ++ tail.data.toList := by rw [hcat, txt_data]
            rw [hd, hsa2, hsa1] at hsc
            have hll : (scanOf (linesOfAll (fs.map rawOf) ++ tail.data.toList)).length = fs.length := by rw [← congrArg List.length hsa1, List.length_map]
            rw [hll] at hsc
            have hrl := rows_read hown HE.out hB fs.length (Nat.le_refl _)
            rw [List.take_length] at hrl
            have hfm : ∀ l ∈ fs, l.length ≤ maxLen := fun l hl => by have := (HF.out l hl).2.1; rw [raw_len] at this; unfold maxLen; omega
            have HSC := Lib.hid hsc
            have HRL := Lib.hid hrl
            have HFM := Lib.hid hfm
            have e3 : ¬ 9223372036854775807 < s.size + tail.size := by omega
            have e4 : ((s.size : Int) == (s.size : Int)) = true := by simp
            clear hcat hsa1 hsa2 hslen hsc hd hll hrl HS HF HE hown hfm
            go_wp2_with fail
            refine (HSC.out _).mono ?_
            rintro e w5 ⟨o5, c5, rfl, hr5, hb5⟩
            have hB5 := below2 hB hb5
            have hS := sameAll_any _ _ fs fs w5.heap.size w5 hr5 (HRL.out.below hb5 hb5.size) (by unfold maxLen; omega) HFM.out
            rw [decide_eq_true rfl] at hS
            have HS := Lib.hid hS
            clear hS hr5 HRL
            go_wp2_with fail
            refine HS.out.mono ?_
            rintro e w6 ⟨rfl, hb6⟩
            go_wp2_with fail
            go_ret
            exact ⟨rfl, below2 hB5 hb6⟩

end Go.Proofs.YtllkibdpjpdbbaaDoor
