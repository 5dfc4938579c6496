/-
  What LineBounds answers: true.
-/
import Derived.Deep.QuietTactic
import Derived.BigQuiet
import Derived.Test.YtllkibdpjpdbbaaDoorLSmall
import Derived.Test.YtllkibdpjpdbbaaDoorLShown
import Derived.Test.YtllkibdpjpdbbaaDoorLPutDet
namespace Go.Proofs.YtllkibdpjpdbbaaDoor
open Go.RowKit Go.Shelf


theorem line_front {xs : List (List UInt8)} {j : Nat} (h : j + 1 < (lineOf xs).length) (h' : j < (lineOf xs).length) : (lineOf xs)[j].toNat ≠ 10 := by
  have e : lineOf xs = (bodyOf xs ++ sealOf (bodyOf xs)) ++ [10] := rfl
  have hj : j < (bodyOf xs ++ sealOf (bodyOf xs)).length := by rw [e, List.length_append] at h; simp at h ⊢; omega
  have h1 : (lineOf xs)[j] = (bodyOf xs ++ sealOf (bodyOf xs))[j] := by
    simp only [e]
    rw [List.getElem_append_left hj]
  rw [h1]
  have := front_not_nl xs _ (List.getElem_mem hj)
  simpa [nlB] using this
theorem line_last (xs : List (List UInt8)) (_h : (lineOf xs).length - 1 < (lineOf xs).length) : (lineOf xs)[(lineOf xs).length - 1] = 10 := by
  have e : lineOf xs = (bodyOf xs ++ sealOf (bodyOf xs)) ++ [10] := rfl
  have := List.getLast_eq_getElem (l := lineOf xs) (by rw [e]; simp)
  rw [← this]
  simp [e]
theorem txt_get (l : List UInt8) (j : Nat) (_h : j < (txt l).size) (h' : j < l.length) : (txt l)[j] = l[j] := by
  have e : (txt l).data.toList[j]'(by rw [txt_data]; exact h') = (txt l)[j] := by rw [Array.getElem_toList]; rfl
  rw [← e]
  congr 1

set_option maxRecDepth 100000 in
set_option maxHeartbeats 3000000 in
theorem lineBounds_walk (v : Value) (xs : List ByteArray) (hn : xs.length ≤ maxLen) (hz : ∀ x ∈ xs, x.size ≤ maxLen) (w : World) (hr : ReadsO w w.heap.size v xs) : Calls Tryd.prog 8 #[v] w (LawPost w) := by
  have HW := Lib.hid shown_any
  cases hs : smallB xs with
  | false =>
    have HS : Hid (∀ w1 : World, Below w.heap.size w w1 → Calls Tryd.prog 11 #[v] w1 fun e w' => e = .returned (.bool false) ∧ w1 = w') := fun w1 hb => by
      have := small_any v xs w.heap.size w1 (hr.below hb (Nat.le_refl _)) hn hz
      rwa [hs] at this
    obtain ⟨o, c, rfl, _⟩ := hr
    clear hs hz
    go_enter Tryd.func8, Tryd.ntmps8
    go_wp2_with fail
    refine (HW.out _).mono ?_
    rintro e w1 ⟨rfl, hb1⟩
    go_wp2_with fail
    refine (HS.out w1 hb1).mono ?_
    rintro e w2 ⟨rfl, rfl⟩
    go_wp2_with fail
    go_ret
    exact ⟨rfl, hb1⟩
  | true =>
    have HS : Hid (∀ w1 : World, Below w.heap.size w w1 → Calls Tryd.prog 11 #[v] w1 fun e w' => e = .returned (.bool true) ∧ w1 = w') := fun w1 hb => by
      have := small_any v xs w.heap.size w1 (hr.below hb (Nat.le_refl _)) hn hz
      rwa [hs] at this
    obtain ⟨h60, h14⟩ := small_all hs
    obtain ⟨t, cd, hdet, hfit, hnofit⟩ := put_det (rawOf xs)
    have hx : ∀ x ∈ xs, x.size ≤ 1000000 := fun x hx => by have := h14 x hx; omega
    have HP : Hid (∀ w1 : World, Below w.heap.size w w1 → Calls Tryd.prog 12 #[v] w1 fun e w' => e = .returned (.tuple #[.string t, .int .i64 cd]) ∧ Below w1.heap.size w1 w') := fun w1 hb =>
      (put_any v xs w1 (hr.below hb hb.size) hn hx).mono fun e w' h => ⟨hdet e h.1, h.2⟩
    have HX : Hid (∀ wr, Below w.heap.size w wr → ReadsO wr wr.heap.size v xs) := fun wr hb => hr.below hb hb.size
    have HZ := Lib.hid h14
    have HFIT := Lib.hid hfit
    have HNO := Lib.hid hnofit
    obtain ⟨o, c, rfl, _⟩ := hr
    clear hs hz hdet h14 hx hfit hnofit
    go_enter Tryd.func8, Tryd.ntmps8
    go_wp2_with fail
    refine (HW.out _).mono ?_
    rintro e w1 ⟨rfl, hb1⟩
    go_wp2_with fail
    refine (HS.out w1 hb1).mono ?_
    rintro e w2 ⟨rfl, rfl⟩
    go_wp2_with fail
    refine (HP.out w1 hb1).mono ?_
    rintro e w2 ⟨rfl, hb2⟩
    have hB2 := below2 hb1 hb2
    clear HP HS hb1 hb2
    go_wp2_with fail
    go_loopw [7, 8] (fun nv iv wr => ∃ k m : Nat, k ≤ xs.length ∧ iv = .int .i64 k ∧ nv = .int .i64 m ∧ Hid (m = 9 + (bodyOf (rawOf (xs.take k))).length) ∧ m ≤ 9 + 50000 * k ∧ Below w.heap.size w wr) (fun _ iv _ => xs.length - (intOf iv).toNat)
    case atStart => exact ⟨0, 9, Nat.zero_le _, rfl, rfl, (by show _ = _; simp [rawOf, bodyOf]), Nat.le_refl _, hB2⟩
    case round =>
      obtain ⟨k, m, hk, rfl, rfl, HM, hm, hB⟩ := hrel
      have hsz := hB.size
      by_cases hlt : k < xs.length
      · obtain ⟨o', c', hv', hcell0⟩ := HX.out wr hB
        cases hv'
        obtain ⟨b, f, rfl, hbB, hkc, hcell⟩ := hcell0 k xs[k] (List.getElem?_eq_getElem hlt)
        clear hcell0
        have hkc' : k < c := by omega
        have hxm := HZ.out xs[k] (List.getElem_mem hlt)
        have hnx := body_next xs k hlt
        have hql := (quote_len xs[k].data.toList).2
        rw [size_list] at hql
        generalize xs[k] = x at *
        have hqs : (txt (quoteOf x.data.toList)).size = (quoteOf x.data.toList).length := txt_size _
        have HN : Hid (m + (txt (quoteOf x.data.toList)).size + 1 = 9 + (bodyOf (rawOf (xs.take (k + 1)))).length) := by
          show _ = _
          rw [hnx, HM.out, hqs]; simp only [List.length_append, List.length_cons, List.length_nil]; omega
        have hqz : (txt (quoteOf x.data.toList)).size ≤ 42001 := by omega
        have HQ := Lib.hid (quote_any x (by omega) wr)
        generalize txt (quoteOf x.data.toList) = q at *
        clear hnx hql hqs HM
        go_wp2_with fail
        refine HQ.out.mono ?_
        rintro e w3 ⟨rfl, hb3⟩
        go_wp2_with fail
        go_roundw
        case rel => exact ⟨k + 1, m + q.size + 1, hlt, by go_num, by go_num, HN, by omega, below2 hB hb3⟩
        case measure => simp [intOf]; omega
      · obtain rfl : k = xs.length := by omega
        have hm2 := HM.out
        rw [List.take_length] at hm2
        have hm3 : m ≤ 9 + 50000 * 60 := by omega
        have HM2 := Lib.hid hm2
        clear hm2 HM hm HX HZ
        by_cases hf : Fit (rawOf xs)
        · obtain ⟨ht, rfl⟩ := HFIT.out hf
          obtain ⟨hf1, hf2, hf3⟩ := hf
          rw [raw_len] at hf1 hf2
          have hts : t.size = m := by rw [ht, txt_size, line_len, HM2.out]; omega
          have hm13 : m ≤ 13000 := by have := HM2.out; omega
          have hm9 : 9 ≤ m := by have := HM2.out; omega
          have hne : ∀ j (h : j < t.size), j + 1 < t.size → t[j].toNat ≠ 10 := by
            intro j h hj
            subst ht
            rw [txt_size] at hj
            have hj' : j < (lineOf (rawOf xs)).length := by omega
            intro hcon
            apply line_front hj hj'
            rw [← txt_get _ j h hj']
            exact hcon
          have hla : ∀ (h : m - 1 < t.size), t[m - 1].toNat = 10 := by
            intro h
            subst ht
            have e : m - 1 = (lineOf (rawOf xs)).length - 1 := by rw [line_len, HM2.out]; omega
            have h' : (lineOf (rawOf xs)).length - 1 < (lineOf (rawOf xs)).length := by rw [line_len]; omega
            have h2 : (lineOf (rawOf xs)).length - 1 < (txt (lineOf (rawOf xs))).size := by rw [← e]; exact h
            have h3 := txt_get _ _ h2 h'
            rw [line_last] at h3
            have h4 : ∀ k (hk : k < (txt (lineOf (rawOf xs))).size), k = (lineOf (rawOf xs)).length - 1 → (txt (lineOf (rawOf xs)))[k].toNat = 10 := by
              intro k hk e'
              subst e'
              exact congrArg UInt8.toNat h3
            exact h4 _ h e
          obtain ⟨p, hpm⟩ : ∃ p, m = p + 1 := ⟨m - 1, by omega⟩
          have hla2 : ∀ (h : p < t.size), t[p].toNat = 10 := by
            have hp : m - 1 = p := by omega
            subst hp
            exact hla
          have HNE := Lib.hid hne
          have HLA := Lib.hid hla2
          have hpt : t.size = p + 1 := by omega
          have HPT := Lib.hid hpt
          have HTS := Lib.hid hts
          have htb : t.size ≤ 13000 := by omega
          have htb1 : 1 ≤ t.size := by omega
          clear hne hla hla2 ht HFIT HNO HM2 hpm hpt hts
          go_wp2_with fail
          go_loopw [9] (fun jv wq => ∃ j : Nat, j + 1 ≤ t.size ∧ jv = .int .i64 j ∧ wq = wr) (fun jv _ => t.size - (intOf jv).toNat)
          case atStart => exact ⟨0, by have := HPT.out; omega, rfl, rfl⟩
          case round =>
            obtain ⟨j, hj, rfl, rfl⟩ := hrel
            by_cases hjl : j + 1 < t.size
            · have hj1 : j < t.size := by omega
              have e1 : decide ((j : Int) < (t.size : Int) - 1) = true := by simp; omega
              have e2 : ((t[j].toNat : Int) == 10) = false := by have := HNE.out j hj1 hjl; simp; omega
              go_wp2_with fail
              go_roundw
              case rel => exact ⟨j + 1, by omega, by go_num, trivial⟩
              case measure => simp [intOf]; omega
            · have e1 : decide ((j : Int) < (t.size : Int) - 1) = false := by simp; omega
              obtain rfl : j = p := by have := HPT.out; omega
              have hj1 : j < t.size := by have := HPT.out; omega
              have b3 : (t.size : Int) - 1 = (j : Int) := by have := HPT.out; omega
              have e2 : ((t[j].toNat : Int) == 10) = true := by have := HLA.out hj1; simp; omega
              have e3 : ((t.size : Int) == (m : Int)) = true := by rw [HTS.out]; simp
              have e4 : decide ((m : Int) ≤ 13000) = true := by simp; omega
              have e5 : decide (1 ≤ (xs.length : Int)) = true := by simp; omega
              have e6 : decide ((xs.length : Int) ≤ 40) = true := by simp; omega
              clear e1 hjl
              go_wp2_with fail
              go_ret
              exact ⟨rfl, hB⟩
        · obtain ⟨rfl, h1, h3⟩ := HNO.out hf
          have e1 : ((⟨#[]⟩ : ByteArray).toList.isEmpty) = true := by rw [Lib.toList_data]; rfl
          by_cases h0 : xs.length = 0
          · obtain rfl := h1 (by rw [List.eq_nil_of_length_eq_zero h0]; rfl)
            have e2 : ((xs.length : Int) == 0) = true := by rw [h0]; rfl
            clear h1 h3 hf HFIT HNO
            go_wp2_with fail
            go_ret
            exact ⟨rfl, hB⟩
          · obtain rfl := h3 (raw_nil h0)
            have e2 : ((xs.length : Int) == 0) = false := by rw [beq_eq_false_iff_ne]; omega
            by_cases h40 : 40 < xs.length
            · have e3 : decide (40 < (xs.length : Int)) = true := by simp; omega
              clear h1 h3 hf HFIT HNO
              go_wp2_with fail
              go_ret
              exact ⟨rfl, hB⟩
            · have e3 : decide (40 < (xs.length : Int)) = false := by simp; omega
              have hm13 : 13000 < m := by
                rw [HM2.out]
                refine Classical.byContradiction fun hh => hf ⟨by rw [raw_len]; omega, by rw [raw_len]; omega, by omega⟩
              have e4 : decide (13000 < (m : Int)) = true := by simp; omega
              clear h1 h3 hf HFIT HNO
              go_wp2_with fail
              go_ret
              exact ⟨rfl, hB⟩

end Go.Proofs.YtllkibdpjpdbbaaDoor
