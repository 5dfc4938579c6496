/-
  What the document's own Put answers.
-/
import Derived.Deep.QuietTactic
import Derived.BigQuiet
import Derived.Test.YtllkibdpjpdbbaaDoorLPut
import Derived.Test.YtllkibdpjpdbbaaDoorLRefQ
namespace Go.Proofs.YtllkibdpjpdbbaaDoor
open Go.RowKit Go.Shelf


set_option maxRecDepth 100000 in
set_option maxHeartbeats 4000000 in
theorem rput_any (v : Value) (xs : List ByteArray) (w : World) (hr : ReadsO w w.heap.size v xs) (hn : xs.length ≤ maxLen) (hx : ∀ x ∈ xs, x.size ≤ 1000000) : Calls Tryd.prog 13 #[v] w (PutPost (rawOf xs) w) := by
  unfold maxLen at hn
  have HX : Hid (∀ wr, Below w.heap.size w wr → ReadsO wr wr.heap.size v xs) := fun wr hb => hr.below hb hb.size
  obtain ⟨o, c, rfl, _⟩ := hr
  by_cases h0 : xs.length = 0
  · have HN : Hid (PutPost (rawOf xs) w (.returned (.tuple #[.string ⟨#[]⟩, .int .i64 1])) w) := ⟨.inr (.inl ⟨by rw [List.eq_nil_of_length_eq_zero h0]; rfl, rfl⟩), Below.refl _ _⟩
    have e0 : ((xs.length : Int) == 0) = true := by rw [h0]; rfl
    clear hx h0
    go_enter Tryd.func13, Tryd.ntmps13
    go_wp2_with fail
    go_ret2
    exact HN.out
  have e0 : ((xs.length : Int) == 0) = false := by rw [beq_eq_false_iff_ne]; omega
  by_cases h40 : 40 < xs.length
  · have HN : Hid (PutPost (rawOf xs) w (.returned (.tuple #[.string ⟨#[]⟩, .int .i64 3])) w) := ⟨.inr (.inr ⟨raw_nil h0, by intro h; have := h.2.1; rw [raw_len] at this; omega, rfl⟩), Below.refl _ _⟩
    have e1 : decide (40 < (xs.length : Int)) = true := by simp; omega
    clear hx h0
    go_enter Tryd.func13, Tryd.ntmps13
    go_wp2_with fail
    go_ret2
    exact HN.out
  have e1 : decide (40 < (xs.length : Int)) = false := by simp; omega
  have HZ := Lib.hid hx
  have H0 := Lib.hid h0
  clear hx h0
  go_enter Tryd.func13, Tryd.ntmps13
  go_wp2_with fail
  go_loopw [4, 5] (fun t i wr => ∃ (k : Nat) (s : ByteArray), k ≤ xs.length ∧ i = .int .i64 k ∧ t = .string s ∧ Hid (s = txt (bodyOf (rawOf (xs.take k)))) ∧ s.size ≤ 4000000 * k ∧ Below w.heap.size w wr) (fun _ i _ => xs.length - (intOf i).toNat)
  case atStart => exact ⟨0, _, Nat.zero_le _, rfl, rfl, rfl, by decide, Below.refl _ _⟩
  case round =>
    obtain ⟨k, s, hk, rfl, rfl, HS, hsz, hB⟩ := hrel
    have hsw := hB.size
    by_cases hlt : k < xs.length
    · obtain ⟨o', c', hv', hcell0⟩ := HX.out wr hB
      cases hv'
      obtain ⟨b, f, rfl, hbB, hkc, hcell⟩ := hcell0 k xs[k] (List.getElem?_eq_getElem hlt)
      clear hcell0
      have hkc' : k < c := by omega
      have hxm := HZ.out xs[k] (List.getElem_mem hlt)
      have hnx := body_next xs k hlt
      have hql := quote_len xs[k].data.toList
      rw [size_list] at hql
      generalize xs[k] = x at *
      have hqz : (txt (quoteOf x.data.toList)).size ≤ 3000001 := by rw [txt_size]; omega
      have HN : Hid (s ++ txt (quoteOf x.data.toList) ++ ⟨#[32]⟩ = txt (bodyOf (rawOf (xs.take (k + 1))))) := by
        show _ = _
        rw [HS.out, hnx, show (⟨#[32]⟩ : ByteArray) = txt [32] from rfl, txt_append, txt_append]
      have HQ := Lib.hid (refQuote_any x hxm wr)
      clear hql hnx
      generalize txt (quoteOf x.data.toList) = q at *
      have z1 : (s ++ q).size = s.size + q.size := ByteArray.size_append ..
      have z2 : (s ++ q ++ ⟨#[32]⟩).size = s.size + q.size + 1 := by rw [ByteArray.size_append, z1]; rfl
      have e3 : ¬ 9223372036854775807 < s.size + q.size := by omega
      have e4 : ¬ 9223372036854775807 < s.size + q.size + 1 := by omega
      have hz9 : (s ++ q ++ ⟨#[32]⟩).size ≤ 4000000 * (k + 1) := by omega
      have Z9 := Lib.hid hz9
      clear z2 hz9
      go_wp2_with fail
      refine HQ.out.mono ?_
      rintro e w2 ⟨rfl, m, rfl⟩
      have hB2 := below_drewN hB m
      go_wp2_with fail
      go_roundw
      case rel => exact ⟨k + 1, _, hlt, by go_num, rfl, HN.out, Z9.out, hB2⟩
      case measure => simp [intOf]; omega
    · obtain rfl : k = xs.length := by omega
      have hs := HS.out
      rw [List.take_length] at hs
      have hso := rof_any s (by unfold maxLen; omega)
      have hsh := rhex_any (addN 1 s.data.toList) (add_lt _ _)
      have hse : txt (hexN (addN 1 s.data.toList)) = txt (sealOf (bodyOf (rawOf xs))) := by rw [hs, txt_data]; rfl
      rw [hse] at hsh
      have z0 : s.size = (bodyOf (rawOf xs)).length := by rw [hs, txt_size]
      have z2 : (txt (sealOf (bodyOf (rawOf xs)))).size = 8 := by rw [txt_size, seal_len]
      have HE : Hid (s ++ txt (sealOf (bodyOf (rawOf xs))) ++ ⟨#[10]⟩ = txt (lineOf (rawOf xs))) := by
        show _ = _
        rw [hs, show (⟨#[10]⟩ : ByteArray) = txt [10] from rfl, txt_append, txt_append]; rfl
      have HSO := Lib.hid hso
      have HSH := Lib.hid hsh
      generalize txt (sealOf (bodyOf (rawOf xs))) = ts at HSH HE z2
      generalize addN 1 s.data.toList = num at HSO HSH
      have z3 : (s ++ ts).size = s.size + ts.size := ByteArray.size_append ..
      have z4 : (s ++ ts ++ ⟨#[10]⟩).size = s.size + ts.size + 1 := by rw [ByteArray.size_append, z3]; rfl
      have e3 : ¬ 9223372036854775807 < s.size + ts.size := by omega
      have e4 : ¬ 9223372036854775807 < s.size + ts.size + 1 := by omega
      clear hs hso hsh hse HS
      by_cases hbig : 12991 < (bodyOf (rawOf xs)).length
      · have HN : Hid (PutPost (rawOf xs) w (.returned (.tuple #[.string ⟨#[]⟩, .int .i64 3])) wr) := by
          refine ⟨.inr (.inr ⟨raw_nil H0.out, ?_, rfl⟩), hB⟩
          rintro ⟨_, _, h3⟩
          omega
        have e5 : decide (13000 < (s.size : Int) + (ts.size : Int) + 1) = true := by simp; omega
        have e6 : decide (13000 < ((s ++ ts ++ ⟨#[10]⟩).size : Int)) = true := by simp only [decide_eq_true_eq]; omega
        clear z4
        go_wp2_with fail
        refine (HSO.out _).mono ?_
        rintro e w' ⟨rfl, rfl⟩
        go_wp2_with fail
        refine (HSH.out _).mono ?_
        rintro e w' ⟨rfl, rfl⟩
        go_wp2_with fail
        go_ret2
        exact HN.out
      · have HF : Hid (Fit (rawOf xs)) := ⟨by rw [raw_len]; have := H0.out; omega, by rw [raw_len]; omega, by omega⟩
        have e5 : decide (13000 < (s.size : Int) + (ts.size : Int) + 1) = false := by simp; omega
        have e6 : decide (13000 < ((s ++ ts ++ ⟨#[10]⟩).size : Int)) = false := by simp only [decide_eq_false_iff_not]; omega
        clear z4
        go_wp2_with fail
        refine (HSO.out _).mono ?_
        rintro e w' ⟨rfl, rfl⟩
        go_wp2_with fail
        refine (HSH.out _).mono ?_
        rintro e w' ⟨rfl, rfl⟩
        go_wp2_with fail
        go_ret2
        refine ⟨.inl ⟨HF.out, ?_⟩, hB⟩
        rw [← HE.out]; rfl

end Go.Proofs.YtllkibdpjpdbbaaDoor
