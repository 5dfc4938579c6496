/-
  together: all lines, or the first error.
-/
import Derived.Deep.QuietTactic
import Derived.BigQuiet
import Derived.Test.YtchnbnmajagpjaaGreatDoorJPut
namespace Go.Proofs.YtchnbnmajagpjaaGreatDoor
open Go.RowKit Go.Shelf Go.Maps

set_option maxRecDepth 100000 in
set_option maxHeartbeats 4000000 in
theorem together_any (v : Value) (xss : List (List ByteArray)) (w : World) (hr : ReadsLL w w.heap.size v xss) (hn : xss.length ≤ maxLen) (hm : ∀ xs ∈ xss, xs.length ≤ maxLen ∧ ∀ x ∈ xs, x.size ≤ 1000000) (hb : Mod (rawLL xss)) :
    Calls Tryz.prog 46 #[.func (.func 47) #[] #[], v] w fun e w' => e = .returned (.tuple #[.string (togT (rawLL xss)), .int .i64 (putC (rawLL xss))]) ∧ Below w.heap.size w w' := by
  unfold maxLen at hn
  have HX : Hid (∀ wr, Below w.heap.size w wr → ReadsLL wr wr.heap.size v xss) := fun wr hb => hr.below hb hb.size
  obtain ⟨o, c, rfl, _⟩ := hr
  have HM := Lib.hid hm
  have HD := Lib.hid hb
  clear hm hb
  go_enter Tryz.func46, Tryz.ntmps46
  go_wp2_with fail
  go_loopw [13] (fun i wr => ∃ k : Nat, k ≤ xss.length ∧ i = .int .i64 k ∧ Hid (∀ x ∈ (rawLL xss).take k, Fit x) ∧ Lib.IsBuilderF 128 5 w.heap.size w.heap.size (Lib.byteCells (linesOfAll ((rawLL xss).take k))) wr ∧ Below w.heap.size w wr) (fun i _ => xss.length - (intOf i).toNat)
  case atStart => exact ⟨0, Nat.zero_le _, rfl, (by intro x hx; simp at hx), Lib.IsBuilderF.of (Lib.fresh_isBuilder _ _ w), (Below.refl _ w).alloc (Nat.le_refl _) _⟩
  case round =>
    obtain ⟨k, hk, rfl, HF, hI, hB⟩ := hrel
    have hsz := hB.size
    have hlen : (Lib.byteCells (linesOfAll ((rawLL xss).take k))).length = (linesOfAll ((rawLL xss).take k)).length := Lib.byteCells_length _
    have hmod := HD.out k HF.out
    by_cases hlt : k < xss.length
    · obtain ⟨o', c', hv', hcell0⟩ := HX.out wr hB
      cases hv'
      obtain ⟨b, f, u, rfl, hbB, hkc, hcell, hu⟩ := hcell0 k xss[k] (List.getElem?_eq_getElem hlt)
      clear hcell0
      have hkc' : k < c := by omega
      obtain ⟨hl1, hl2⟩ := HM.out xss[k] (List.getElem_mem hlt)
      have HP := Lib.hid (put_c u xss[k] wr hu hl1 hl2)
      have hat := raw_at hlt
      generalize rawOf xss[k] = x at HP hat
      obtain ⟨ls, hls⟩ : ∃ ls, ls = linesOfAll ((rawLL xss).take k) := ⟨_, rfl⟩
      rw [← hls] at hI hlen hmod
      obtain ⟨bs, hbs⟩ : ∃ bs, bs = Lib.byteCells ls := ⟨_, rfl⟩
      rw [← hbs] at hI hlen
      clear hl1 hl2 hu
      by_cases hfit : Fit x
      · have HN : Hid (linesOfAll ((rawLL xss).take (k + 1)) = ls ++ lineOf x) := by
          show _ = _
          rw [lines_next hat, ← hls]
        have HF2 : Hid (∀ x ∈ (rawLL xss).take (k + 1), Fit x) := fits_next hat HF.out hfit
        have hlb := line_bound hfit
        rw [putT_fit hfit, lineC_fit hfit] at HP
        have hqt : (txt (lineOf x)).size ≤ 13000 := by rw [txt_size]; exact hlb
        have hqd : Lib.strCells (txt (lineOf x)) = Lib.byteCells (lineOf x) := by rw [Lib.strCells_eq, txt_data]
        have HBS : Hid (Lib.byteCells (ls ++ lineOf x) = bs ++ Lib.strCells (txt (lineOf x))) := by
          show _ = _
          rw [Lib.byteCells_append, hqd, hbs]
        clear hat hfit hlb hqd hls hbs
        generalize txt (lineOf x) = q at HP hqt HBS
        have e2 : decide ((bs.length : Int) ≤ 16777216) = true := by simp; omega
        go_wp2_with fail
        refine HP.out.mono ?_
        rintro e w2 ⟨rfl, hb2⟩
        have hB2 := hB.trans (hb2.mono hsz)
        have hI2 : Lib.IsBuilderF 128 5 w.heap.size w.heap.size bs w2 := builder_below hI hb2
        have HLN := Lib.hid (builderLen_any w.heap.size w.heap.size bs w2 hI2)
        go_wp2_with fail
        refine HLN.out.mono ?_
        rintro e w' ⟨rfl, rfl⟩
        go_wp2_with fail
        refine (writeString_any w.heap.size w.heap.size bs q w' hI2 (by omega) hB2.size).mono ?_
        rintro e w3 ⟨rfl, hI3, hB3, _⟩
        go_wp2_with fail
        go_roundw
        case rel =>
          refine ⟨k + 1, hlt, by go_num, HF2.out, ?_, hB2.trans hB3⟩
          rw [HN.out, HBS.out]
          exact .inr hI3
        case measure => simp [intOf]; omega
      · have hc := putC_at HF.out hat hfit
        have hne := lineC_ne hfit
        have HN : Hid (togT (rawLL xss) = ⟨#[]⟩ ∧ putC (rawLL xss) = lineC x) := by
          refine ⟨?_, hc⟩
          unfold togT
          rw [if_neg]
          rw [hc]
          simpa using hne
        generalize lineC x = cd at *
        generalize putT x = pt at *
        clear hat hfit hc hls hbs
        go_wp2_with fail
        refine HP.out.mono ?_
        rintro e w2 ⟨rfl, hb2⟩
        have hB2 := hB.trans (hb2.mono hsz)
        go_wp2_with fail
        go_ret2
        rw [HN.out.1, HN.out.2]
        exact ⟨rfl, hB2⟩
    · obtain rfl : k = xss.length := by omega
      have hrl : (rawLL xss).length = xss.length := by simp [rawLL]
      have htk : (rawLL xss).take xss.length = rawLL xss := by rw [← hrl, List.take_length]
      rw [htk] at hI hlen hmod
      have HN : Hid (togT (rawLL xss) = txt (linesOfAll (rawLL xss)) ∧ putC (rawLL xss) = 0) := by
        have h1 := HF.out
        rw [htk] at h1
        have h2 := putC_fit h1
        exact ⟨by unfold togT; rw [if_pos h2], h2⟩
      have HS := Lib.hid (builderString_any w.heap.size w.heap.size _ wr hI hsz)
      have HS2 : Hid (Calls Tryz.prog 72 #[.pointer (some ⟨w.heap.size, 0, none⟩)] wr fun e w' => e = .returned (.string (txt (linesOfAll (rawLL xss)))) ∧ Below w.heap.size wr w') := HS.out.mono fun e w' h => ⟨h.1, h.2.2.1⟩
      clear HS hI hlen hmod htk hrl
      generalize txt (linesOfAll (rawLL xss)) = tb at HN HS2
      go_wp2_with fail
      refine HS2.out.mono ?_
      rintro e w2 ⟨rfl, hb2⟩
      go_wp2_with fail
      go_ret2
      rw [HN.out.1, HN.out.2]
      exact ⟨rfl, hB.trans hb2⟩

end Go.Proofs.YtchnbnmajagpjaaGreatDoor
