/-
  What LineTorn answers: true.
-/
import Derived.Deep.QuietTactic
import Derived.BigQuiet
import Derived.Test.YtllkibdpjpdbbaaDoorLSmall
import Derived.Test.YtllkibdpjpdbbaaDoorLShown
import Derived.Test.YtllkibdpjpdbbaaDoorLFitRows
namespace Go.Proofs.YtllkibdpjpdbbaaDoor
open Go.RowKit Go.Shelf


theorem infoInt : (Tryd.prog.info? 3).map (fun i => (i.zero, i.size, i.bytes)) = some (some (.int .i64 0), 1, 8) := by kernel_rfl
/-- Two own rows of unlike kinds lie in unlike blocks. -/
theorem own_apart {W : World} {base : Nat} {e e' : TypeId} {size size' n n' : Nat} {v v' : Value} {xs xs' : List Value} (h : W.ownsRow base e size v n xs) (h' : W.ownsRow base e' size' v' n' xs') (he : e ≠ e') : ∀ r, v.ownBlock = some r → v'.ownBlock ≠ some r := by
  intro r hr hr'
  rcases h.2 with ⟨rfl, _⟩ | ⟨g, cap, cur, rfl, _, hg, _⟩
  · simp [Value.ownBlock] at hr
  · rcases h'.2 with ⟨rfl, _⟩ | ⟨g', cap', cur', rfl, _, hg', _⟩
    · simp [Value.ownBlock] at hr'
    · simp only [Value.ownBlock, Option.some.injEq] at hr hr'
      rw [hr] at hg
      rw [hr', hg] at hg'
      cases hg'
      exact he rfl
theorem own_grown {W W' : World} {base : Nat} {e : TypeId} {size n : Nat} {v : Value} {xs : List Value} {row : Option Nat} (h : W.ownsRow base e size v n xs) (hg : W.grownBy W' row) (hne : ∀ r, v.ownBlock = some r → row ≠ some r) : W'.ownsRow base e size v n xs := by
  refine ⟨h.1, ?_⟩
  rcases h.2 with hn | ⟨g, cap, cur, rfl, hb, hgg, rest⟩
  · exact .inl hn
  · exact .inr ⟨g, cap, cur, rfl, hb, (hg.block g (Array.getElem?_eq_some_iff.1 hgg).1 (fun e => hne g rfl e.symm)).trans hgg, rest⟩
theorem lines_append (a b : List (List (List UInt8))) : linesOfAll (a ++ b) = linesOfAll a ++ linesOfAll b := by simp [linesOfAll]
theorem lines_cons (x : List (List UInt8)) (r : List (List (List UInt8))) : linesOfAll (x :: r) = lineOf x ++ linesOfAll r := by simp [linesOfAll]
/-- The place behind the first m lines. -/
def endAt (fs : List (List ByteArray)) (m : Nat) : Nat := (linesOfAll ((fs.take m).map rawOf)).length
theorem endAt_zero (fs : List (List ByteArray)) : endAt fs 0 = 0 := rfl
theorem endAt_all (fs : List (List ByteArray)) : endAt fs fs.length = (linesOfAll (fs.map rawOf)).length := by unfold endAt; rw [List.take_length]
theorem endAt_next (fs : List (List ByteArray)) (m : Nat) (h : m < fs.length) : endAt fs (m + 1) = endAt fs m + (lineOf (rawOf fs[m])).length := by
  unfold endAt
  rw [List.take_succ_eq_append_getElem h, lines_snoc, List.length_append]
theorem own_cell {W : World} {base : Nat} {e : TypeId} {o : Option Addr} {n c : Nat} {us : List Value} (h : W.ownsRow base e 1 (.slice o n c) n us) {i : Nat} (hi : i < n) {u : Value} (hu : us[i]? = some u) : ∃ g, o = some ⟨g, 0, none⟩ ∧ i < c ∧ W.cell? ⟨g, i, none⟩ = some u := by
  rcases h.2 with ⟨hv, h0⟩ | ⟨g, cap, cur, hv, hb, hg, hk, hmx, hs, ht⟩
  · omega
  · cases hv
    rw [← ht, List.getElem?_take_of_lt (by omega)] at hu
    exact ⟨g, rfl, by omega, cell_at hg (by rw [← Array.getElem?_toList]; exact hu)⟩
/-- The ends of the lines. -/
def endsOf (fs : List (List ByteArray)) : List Value := (List.range fs.length).map fun i => .int .i64 (endAt fs (i + 1) : Nat)
theorem endAt_snoc (fs : List (List ByteArray)) (l : List ByteArray) (m : Nat) (h : m ≤ fs.length) : endAt (fs ++ [l]) m = endAt fs m := by
  unfold endAt; rw [List.take_append_of_le_length h]
theorem ends_snoc (fs : List (List ByteArray)) (l : List ByteArray) : endsOf (fs ++ [l]) = endsOf fs ++ [.int .i64 ((linesOfAll ((fs ++ [l]).map rawOf)).length : Nat)] := by
  unfold endsOf
  rw [List.length_append, List.length_cons, List.length_nil, List.range_succ, List.map_append, List.map_cons, List.map_nil]
  congr 1
  · exact List.map_congr_left fun i hi => by rw [endAt_snoc _ _ _ (by have := List.mem_range.1 hi; omega)]
  · have := endAt_all (fs ++ [l])
    rw [List.length_append, List.length_cons, List.length_nil] at this
    rw [this]
theorem ends_at (fs : List (List ByteArray)) (i : Nat) (h : i < fs.length) : (endsOf fs)[i]? = some (.int .i64 (endAt fs (i + 1) : Nat)) := by
  unfold endsOf
  rw [List.getElem?_map, List.getElem?_range h]; rfl
theorem endAt_mono (fs : List (List ByteArray)) (m : Nat) (h : m < fs.length) : endAt fs m ≤ endAt fs (m + 1) := by rw [endAt_next fs m h]; omega
theorem endAt_le (fs : List (List ByteArray)) (m : Nat) (_h : m ≤ fs.length) : endAt fs m ≤ (linesOfAll (fs.map rawOf)).length := by
  have : fs.map rawOf = (fs.take m).map rawOf ++ (fs.drop m).map rawOf := by rw [← List.map_append, List.take_append_drop]
  unfold endAt
  rw [this, lines_append, List.length_append]
  exact Nat.le_add_right _ _
/-- Lines cut anywhere: the whole ones, and a piece that is no line. -/
theorem cut_lines (fs : List (List ByteArray)) (m q : Nat) (hm : m ≤ fs.length) (h1 : endAt fs m ≤ q) (h2 : m = fs.length ∧ q ≤ (linesOfAll (fs.map rawOf)).length ∨ ∃ _ : m < fs.length, q < endAt fs (m + 1)) :
    ∃ tail, (linesOfAll (fs.map rawOf)).take q = linesOfAll ((fs.take m).map rawOf) ++ tail ∧ ∀ xs r, takeOf tail ≠ .ok xs r := by
  rcases h2 with ⟨rfl, hq⟩ | ⟨h, hq⟩
  · rw [endAt_all] at h1
    refine ⟨[], ?_, fun xs r e => by rw [take_none [] (by simp)] at e; cases e⟩
    rw [List.take_length, List.append_nil, List.take_of_length_le (by omega)]
  · rw [endAt_next fs m h] at hq
    have hsplit : linesOfAll (fs.map rawOf) = linesOfAll ((fs.take m).map rawOf) ++ (lineOf (rawOf fs[m]) ++ linesOfAll ((fs.drop (m + 1)).map rawOf)) := by
      have : fs = fs.take m ++ fs[m] :: fs.drop (m + 1) := by rw [← List.drop_eq_getElem_cons h, List.take_append_drop]
      conv => lhs; rw [this]
      rw [List.map_append, List.map_cons, lines_append, lines_cons]
    refine ⟨(lineOf (rawOf fs[m])).take (q - endAt fs m), ?_, fun xs r e => ?_⟩
    · rw [hsplit, List.take_append, List.take_of_length_le (by exact h1)]
      congr 1
      show List.take (q - endAt fs m) _ = _
      rw [List.take_append_of_le_length (by omega)]
    · rw [take_none _ (cut_no_nl (rawOf fs[m]) (q - endAt fs m) (by omega))] at e; cases e

set_option maxRecDepth 100000 in
set_option maxHeartbeats 6000000 in
theorem lineTorn_walk (v : Value) (xss : List (List ByteArray)) (hn : xss.length ≤ maxLen) (hz : ∀ l ∈ xss, l.length ≤ maxLen ∧ ∀ x ∈ l, x.size ≤ maxLen) (cut : Int) (hcut : -9223372036854775808 ≤ cut ∧ cut ≤ 9223372036854775807) (w : World) (hr : ReadsLL w w.heap.size v xss) : Calls Tryd.prog 5 #[v, .int .i64 cut] w (LawPost w) := by
  obtain ⟨i0, hi, hz0, hz1, hz2⟩ := info_parts infoList
  obtain ⟨i1, hi1, hy0, hy1, hy2⟩ := info_parts infoInt
  have HW := Lib.hid shown_any
  obtain ⟨hcut1, hcut2⟩ := hcut
  have hty := fun (w1 : World) (hb : Below w.heap.size w w1) => tiny_any v xss w.heap.size w1 (hr.below hb (Nat.le_refl _)) hn hz
  have HR := Lib.hid hr
  obtain ⟨o, cp, rfl, hrx⟩ := hr
  have HRX := Lib.hid hrx
  clear hrx
  cases ht : tinyB xss with
  | false =>
    have HT : Hid (∀ w1 : World, Below w.heap.size w w1 → Calls Tryd.prog 20 #[.slice o xss.length cp] w1 fun e w' => e = .returned (.bool false) ∧ w1 = w') := fun w1 hb => by
      have := hty w1 hb
      unfold TinyPost at this
      rwa [ht] at this
    clear hty ht hz
    go_enter Tryd.func5, Tryd.ntmps5
    go_wp2_with fail
    refine (HW.out _).mono ?_
    rintro e w1 ⟨rfl, hb1⟩
    go_wp2_with fail
    refine (HT.out w1 hb1).mono ?_
    rintro e w2 ⟨rfl, rfl⟩
    go_wp2_with fail
    go_ret
    exact ⟨rfl, hb1⟩
  | true =>
    have HT : Hid (∀ w1 : World, Below w.heap.size w w1 → Calls Tryd.prog 20 #[.slice o xss.length cp] w1 fun e w' => e = .returned (.bool true) ∧ w1 = w') := fun w1 hb => by
      have := hty w1 hb
      unfold TinyPost at this
      rwa [ht] at this
    obtain ⟨h12, hta⟩ := tiny_all ht
    have HTA := Lib.hid hta
    clear hty ht hz hta
    go_enter Tryd.func5, Tryd.ntmps5
    go_wp2_with fail
    refine (HW.out _).mono ?_
    rintro e w1 ⟨rfl, hb1⟩
    go_wp2_with fail
    refine (HT.out w1 hb1).mono ?_
    rintro e w2 ⟨rfl, rfl⟩
    go_wp2_with fail
    go_loopw [7, 8, 9, 10] (fun sv inv ev iv wr => ∃ (k : Nat) (s : ByteArray) (fs : List (List ByteArray)) (us : List Value), k ≤ xss.length ∧ iv = .int .i64 k ∧ sv = .string s ∧ Hid (s = txt (linesOfAll (fs.map rawOf))) ∧ s.size ≤ 13000 * k ∧ fs.length ≤ k ∧ Hid (∀ l ∈ fs, Fit (rawOf l)) ∧
      wr.ownsRow w.heap.size 22 1 inv fs.length us ∧ wr.ownsRow w.heap.size 3 1 ev fs.length (endsOf fs) ∧ Hid (EachReads w us fs) ∧ Below w.heap.size w wr) (fun _ _ _ iv _ => xss.length - (intOf iv).toNat)
    case atStart => exact ⟨0, _, [], [], Nat.zero_le _, rfl, rfl, rfl, by decide, Nat.le_refl _, (by intro l hl; cases hl), World.ownsRow_nil _ _ _ _, World.ownsRow_nil _ _ _ _, ⟨rfl, by simp⟩, hb1⟩
    case round =>
      obtain ⟨k, s, fs, us, hk, rfl, rfl, HS, hsz, hfl, HF, hown, hends, HE, hB⟩ := hrel
      have hsw := hB.size
      obtain ⟨vo, vc, rfl⟩ := ownsRow_shape hown
      obtain ⟨eo, ec, rfl⟩ := ownsRow_shape hends
      by_cases hlt : k < xss.length
      · obtain ⟨b, f, u, rfl, hbB, hkc, hcell0, hu⟩ := HRX.out k xss[k] (List.getElem?_eq_getElem hlt)
        have hkc' : k < cp := by omega
        have hcell : wr.cell? ⟨b, f + k, none⟩ = some u := (hB.cell (p := ⟨b, f + k, none⟩) hbB).trans hcell0
        obtain ⟨h50, h60⟩ := HTA.out _ (List.getElem_mem hlt)
        have hp := put_any u xss[k] wr (hu.below hB hsw) (by unfold maxLen; omega) (fun x hx => by have := h60 x hx; omega)
        obtain ⟨t, cd, hdet, hfit, hnofit⟩ := put_det (rawOf xss[k])
        have HP : Hid (Calls Tryd.prog 12 #[u] wr fun e w' => e = .returned (.tuple #[.string t, .int .i64 cd]) ∧ Below wr.heap.size wr w') := hp.mono fun e w' h => ⟨hdet e h.1, h.2⟩
        have HU := Lib.hid hu
        obtain ⟨uo, uc, rfl, _⟩ := hu
        clear hp hdet h60 hcell0
        by_cases hf : Fit (rawOf xss[k])
        · obtain ⟨htt, rfl⟩ := hfit hf
          have htz : t.size ≤ 13000 := by rw [htt, txt_size, line_len]; have := hf.2.2; omega
          have HS2 : Hid (s ++ t = txt (linesOfAll ((fs ++ [xss[k]]).map rawOf))) := by show _ = _; rw [lines_snoc, HS.out, htt, txt_append]
          have hes : endsOf (fs ++ [xss[k]]) = endsOf fs ++ [.int .i64 ((s ++ t).size : Nat)] := by rw [ends_snoc, HS2.out, txt_size]
          have HF2 : Hid (∀ l ∈ fs ++ [xss[k]], Fit (rawOf l)) := fit_snoc HF.out hf
          have HE2 : Hid (EachReads w (us ++ [.slice uo xss[k].length uc]) (fs ++ [xss[k]])) := HE.out.snoc HU.out
          have HES := Lib.hid hes
          have z1 : (s ++ t).size = s.size + t.size := ByteArray.size_append ..
          have e3 : ¬ 9223372036854775807 < s.size + t.size := by omega
          have hml : fs.length + 1 ≤ maxLen := by unfold maxLen; omega
          have hcellw : ∀ w2, Below wr.heap.size wr w2 → w2.cell? ⟨b, f + k, none⟩ = some (.slice uo xss[k].length uc) := fun w2 hb2 => (hb2.cell (p := ⟨b, f + k, none⟩) (by show b < wr.heap.size; omega)).trans hcell
          have HCW := Lib.hid hcellw
          clear hfit hnofit hf htt HS HF HE HU hcellw hes
          generalize xss[k] = l at *
          go_wp2_with fail
          refine HP.out.mono ?_
          rintro e w2 ⟨rfl, hb2⟩
          have hB2 := hB.trans (hb2.mono hsw)
          have hsw2 := hB2.size
          have hown2 := ownsRow_below hown hb2
          have hends2 := ownsRow_below hends hb2
          have hcell2 := HCW.out w2 hb2
          clear hown hends hcell
          go_wp2_with (first
            | (at_builtin; refine wpList_append_own _ rfl _ _ 30 rfl w.heap.size 22 i0 (.slice none 0 0) 1 24 Tryd.underlying30 hi hz0 hz1 hz2 rfl (by decide) _ _ _ rfl (hown2.alloc _) ⟨w2.heap.size, 0, none⟩ 1 1 [.slice uo l.length uc] rfl rfl (cell_one_new _ _ _) (by simp [Value.oneCell']) hml (by omega) (by simp; omega) ?_; intro v3 w3 hown3 hgrow3 _; have hB3 := (hB2.alloc hsw2 (.cells #[.slice uo l.length uc] 22)).grown hgrow3 (by simp; omega) (fun j ej => (hown2.lt j ej).1); have hsw3 := hB3.size; have hends3 := own_grown (hends2.alloc _) hgrow3 (own_apart hends2 hown2 (by decide)))
            | (at_builtin; refine wpList_append_own _ rfl _ _ 37 rfl w.heap.size 3 i1 (.int .i64 0) 1 8 Tryd.underlying37 hi1 hy0 hy1 hy2 rfl (by decide) _ _ _ rfl (hends3.alloc _) ⟨w3.heap.size, 0, none⟩ 1 1 [_] rfl rfl (cell_one_new _ _ _) (by simp [Value.oneCell']) hml (by omega) (by simp; omega) ?_; intro v4 w4 hends4 hgrow4 _; have hB4 := (hB3.alloc hsw3 (.cells #[_] 3)).grown hgrow4 (by simp; omega) (fun j ej => (hends3.lt j ej).1); have hown4 := own_grown (hown3.alloc _) hgrow4 (own_apart hown3 hends3 (by decide))))
          go_roundw
          case rel =>
            refine ⟨k + 1, s ++ t, fs ++ [l], us ++ [.slice uo l.length uc], hlt, by go_num, rfl, HS2, by omega, by simp; omega, HF2, by simpa using hown4, ?_, HE2, hB4⟩
            rw [HES.out, List.length_append, z1, Int.natCast_add]
            exact hends4
          case measure => simp [intOf]; omega
        · have hcd : (cd != 0) = true := by
            obtain ⟨_, h1, h3⟩ := hnofit hf
            by_cases h0 : rawOf xss[k] = []
            · rw [h1 h0]; rfl
            · rw [h3 h0]; rfl
          clear hfit hnofit hf HU
          generalize xss[k] = l at *
          go_wp2_with fail
          refine HP.out.mono ?_
          rintro e w2 ⟨rfl, hb2⟩
          have hB2 := hB.trans (hb2.mono hsw)
          have hown2 := ownsRow_below hown hb2
          have hends2 := ownsRow_below hends hb2
          clear hown hends hcell
          go_wp2_with fail
          go_roundw
          case rel => exact ⟨k + 1, s, fs, us, hlt, by go_num, rfl, HS.out, by omega, by omega, HF.out, hown2, hends2, HE, hB2⟩
          case measure => simp [intOf]; omega
      · obtain ⟨q, hq⟩ : ∃ q : Nat, max 0 (min cut (s.size : Int)) = (q : Int) := ⟨(max 0 (min cut (s.size : Int))).toNat, by omega⟩
        have hqs : q ≤ s.size := by omega
        have hs2 : s.size ≤ 156000 := by omega
        have HQ := Lib.hid hq
        clear hcut1 hcut2
        go_wp2_with fail
        go_loop [13, 14] (fun mv ev => ∃ m : Nat, m ≤ fs.length ∧ mv = .int .i64 m ∧ ev = .int .i64 (endAt fs m : Nat) ∧ endAt fs m ≤ q) (fun mv _ => fs.length - (intOf mv).toNat)
        case atStart => exact ⟨0, Nat.zero_le _, rfl, rfl, Nat.zero_le _⟩
        case round =>
          obtain ⟨m, hm, rfl, rfl, hmq⟩ := hrel
          have hmc : m ≤ vc := by
            rcases hown.2 with ⟨hv, h0⟩ | ⟨g, cap, cur, hv, _, _, hkc, _⟩
            · omega
            · cases hv; omega
          by_cases hgo : ∃ h : m < fs.length, endAt fs (m + 1) ≤ q
          · obtain ⟨hml, hle⟩ := hgo
            obtain ⟨g, rfl, hmec, hcell⟩ := own_cell hends hml (ends_at fs m hml)
            have e2 : decide (((endAt fs (m + 1) : Nat) : Int) ≤ (q : Int)) = true := by simp; omega
            have hle2 := hle
            generalize hen : endAt fs (m + 1) = en at *
            have HEN := Lib.hid hen
            clear hen
            go_wp2_with fail
            go_round
            case rel => exact ⟨m + 1, hml, by go_num, by rw [HEN.out], by rw [HEN.out]; exact hle2⟩
            case measure => simp [intOf]; omega
          · have hcut : m = fs.length ∧ q ≤ (linesOfAll (fs.map rawOf)).length ∨ ∃ _ : m < fs.length, q < endAt fs (m + 1) := by
              rcases Nat.lt_or_ge m fs.length with h | h
              · exact .inr ⟨h, by refine Nat.lt_of_not_le fun x => hgo ⟨h, x⟩⟩
              · refine .inl ⟨by omega, ?_⟩
                have : s.size = (linesOfAll (fs.map rawOf)).length := by rw [HS.out, txt_size]
                omega
            obtain ⟨tail, hcl, htail⟩ := cut_lines fs m q hm hmq hcut
            obtain ⟨hsa1, hsa2⟩ := scan_all (fs.take m) tail (fun l hl => HF.out l (List.mem_of_mem_take hl)) htail
            have hd : (s.extract 0 q).data.toList = linesOfAll ((fs.take m).map rawOf) ++ tail := by
              rw [Lib.extract_data, List.drop_zero, Nat.sub_zero, HS.out, txt_data, hcl]
            have hez : (s.extract 0 q).size ≤ 1000000 := by rw [ByteArray.size_extract]; omega
            have hsc := fun w1 => (scan_any (s.extract 0 q) hez w1).mono fun e w' h => scan_shape h
            rw [hd, hsa1, hsa2] at hsc
            have hll : (scanOf (linesOfAll ((fs.take m).map rawOf) ++ tail)).length = (fs.take m).length := by rw [← congrArg List.length hsa1, List.length_map]
            rw [hll] at hsc
            have hea : ((linesOfAll ((fs.take m).map rawOf)).length : Int) = ((endAt fs m : Nat) : Int) := rfl
            rw [hea] at hsc
            have hfm : ∀ l ∈ fs.take m, l.length ≤ maxLen := fun l hl => by have := (HF.out l (List.mem_of_mem_take hl)).2.1; rw [raw_len] at this; unfold maxLen; omega
            have hrl := rows_read hown HE.out hB m hm
            have hfl2 : (fs.take m).length ≤ maxLen := by rw [List.length_take]; unfold maxLen; omega
            have e4 : (((endAt fs m : Nat) : Int) == ((endAt fs m : Nat) : Int)) = true := by simp
            generalize hX : s.extract 0 q = X at *
            have HSC := Lib.hid hsc
            have HRL := Lib.hid hrl
            have HFM := Lib.hid hfm
            have hstop : (m < fs.length ∧ ∃ g, eo = some ⟨g, 0, none⟩ ∧ m < ec ∧ wr.cell? ⟨g, m, none⟩ = some (.int .i64 (endAt fs (m + 1) : Nat)) ∧ ¬ endAt fs (m + 1) ≤ q) ∨ m = fs.length := by
              rcases hcut with ⟨h, _⟩ | ⟨h, hlt⟩
              · exact .inr h
              · obtain ⟨g, rfl, hmec, hcell⟩ := own_cell hends h (ends_at fs m h)
                exact .inl ⟨h, g, rfl, hmec, hcell, by omega⟩
            have hvo : vo = none ∧ vc = 0 ∧ fs.length = 0 ∨ ∃ g, vo = some ⟨g, 0, none⟩ := by
              rcases hown.2 with ⟨hv, h0⟩ | ⟨g, cap, cur, hv, _⟩
              · simp only [Value.slice.injEq] at hv
                exact .inl ⟨hv.1, hv.2.2, h0⟩
              · cases hv; exact .inr ⟨g, rfl⟩
            clear hcut hgo hcl htail hsa1 hsa2 hd hez hsc hll hea hfm hrl HE HF HS hq HQ
            generalize fs.take m = ft at *
            rcases hstop with ⟨hml, g, rfl, hmec, hcell, e2⟩ | hml
            · generalize endAt fs (m + 1) = en at *
              generalize endAt fs m = em at *
              rcases hvo with ⟨rfl, rfl, h0⟩ | ⟨gv, rfl⟩
              · omega
              · have e5 : decide (m < fs.length) = true := by simp; omega
                go_wp2_with fail
                refine (HSC.out _).mono ?_
                rintro e w5 ⟨o5, c5, rfl, hr5, hb5⟩
                have hB5 := below2 hB hb5
                have hS := sameAll_any _ _ ft ft w5.heap.size w5 hr5 (HRL.out.below hb5 hb5.size) hfl2 HFM.out
                rw [decide_eq_true rfl] at hS
                have HSS := Lib.hid hS
                clear hS hr5 HRL
                go_wp2_with fail
                refine HSS.out.mono ?_
                rintro e w6 ⟨rfl, hb6⟩
                go_wp2_with fail
                go_ret
                exact ⟨rfl, below2 hB5 hb6⟩
            · have hml2 : ¬ m < fs.length := by omega
              generalize endAt fs m = em at *
              rcases hvo with ⟨rfl, rfl, h0⟩ | ⟨gv, rfl⟩
              · obtain rfl : fs = [] := List.eq_nil_of_length_eq_zero h0
                obtain rfl : m = 0 := hml
                simp only [List.length_nil, Int.natCast_zero]
                go_wp2_with fail
                refine (HSC.out _).mono ?_
                rintro e w5 ⟨o5, c5, rfl, hr5, hb5⟩
                have hB5 := below2 hB hb5
                have hS := sameAll_any _ _ ft ft w5.heap.size w5 hr5 (HRL.out.below hb5 hb5.size) hfl2 HFM.out
                rw [decide_eq_true rfl] at hS
                have HSS := Lib.hid hS
                clear hS hr5 HRL
                go_wp2_with fail
                refine HSS.out.mono ?_
                rintro e w6 ⟨rfl, hb6⟩
                go_wp2_with fail
                go_ret
                exact ⟨rfl, below2 hB5 hb6⟩
              · clear hml
                go_wp2_with fail
                refine (HSC.out _).mono ?_
                rintro e w5 ⟨o5, c5, rfl, hr5, hb5⟩
                have hB5 := below2 hB hb5
                have hS := sameAll_any _ _ ft ft w5.heap.size w5 hr5 (HRL.out.below hb5 hb5.size) hfl2 HFM.out
                rw [decide_eq_true rfl] at hS
                have HSS := Lib.hid hS
                clear hS hr5 HRL
                go_wp2_with fail
                refine HSS.out.mono ?_
                rintro e w6 ⟨rfl, hb6⟩
                go_wp2_with fail
                go_ret
                exact ⟨rfl, below2 hB5 hb6⟩

end Go.Proofs.YtllkibdpjpdbbaaDoor
