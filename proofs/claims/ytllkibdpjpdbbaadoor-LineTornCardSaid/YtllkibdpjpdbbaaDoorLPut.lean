/-
  What Put answers, for every list of texts of at most 1000000 bytes each.
-/
import Derived.Deep.QuietTactic
import Derived.BigQuiet
import Derived.Test.YtllkibdpjpdbbaaDoorLLib
import Derived.Test.YtllkibdpjpdbbaaDoorRowL
namespace Go.Proofs.YtllkibdpjpdbbaaDoor
open Go.RowKit Go.Shelf


/-- The texts as lists of bytes. -/
def rawOf (xs : List ByteArray) : List (List UInt8) := xs.map fun x => x.data.toList
/-- What Put answers: the line, or nothing and the error. -/
def PutIs (xs : List (List UInt8)) (e : Ending) : Prop :=
  (Fit xs ∧ e = .returned (.tuple #[.string (txt (lineOf xs)), .int .i64 0])) ∨ (xs = [] ∧ e = .returned (.tuple #[.string ⟨#[]⟩, .int .i64 1])) ∨ (xs ≠ [] ∧ ¬ Fit xs ∧ e = .returned (.tuple #[.string ⟨#[]⟩, .int .i64 3]))
def PutPost (xs : List (List UInt8)) (w : World) (e : Ending) (w' : World) : Prop := PutIs xs e ∧ Below w.heap.size w w'

theorem raw_len (xs : List ByteArray) : (rawOf xs).length = xs.length := by simp [rawOf]
theorem raw_take (xs : List ByteArray) (k : Nat) (h : k < xs.length) : rawOf (xs.take (k + 1)) = rawOf (xs.take k) ++ [xs[k].data.toList] := by
  unfold rawOf
  rw [List.take_succ_eq_append_getElem h, List.map_append]; rfl
theorem body_append (a b : List (List UInt8)) : bodyOf (a ++ b) = bodyOf a ++ bodyOf b := by simp [bodyOf]
theorem body_mono (xs : List ByteArray) (k : Nat) : (bodyOf (rawOf (xs.take k))).length ≤ (bodyOf (rawOf xs)).length := by
  have : rawOf xs = rawOf (xs.take k) ++ rawOf (xs.drop k) := by unfold rawOf; rw [← List.map_append, List.take_append_drop]
  rw [this, body_append, List.length_append]; omega
theorem body_next (xs : List ByteArray) (k : Nat) (h : k < xs.length) : bodyOf (rawOf (xs.take (k + 1))) = bodyOf (rawOf (xs.take k)) ++ quoteOf xs[k].data.toList ++ [32] := by
  rw [raw_take xs k h, body_snoc]
theorem raw_nil {xs : List ByteArray} (h : xs.length ≠ 0) : rawOf xs ≠ [] := by
  intro e; have := congrArg List.length e; rw [raw_len] at this; exact h this

theorem builder_at_below {T e : TypeId} {B b : Nat} {p : Value} {bs : List Value} {w w' : World} (h : Lib.BuilderAtF T e B b p bs w) (hb : Below w.heap.size w w') : Lib.BuilderAtF T e B b p bs w' := by
  obtain ⟨hB, v, hk, hown, hne⟩ := h
  refine ⟨hB, v, (hb.block b (Array.getElem?_eq_some_iff.1 hk).1).trans hk, ⟨hown.1, ?_⟩, hne⟩
  rcases hown.2 with hn | ⟨g, cap, cur, fz, hv, hbg, hg, rest⟩
  · exact .inl hn
  · exact .inr ⟨g, cap, cur, fz, hv, hbg, (hb.block g (Array.getElem?_eq_some_iff.1 hg).1).trans hg, rest⟩
theorem builder_below {T e : TypeId} {B b : Nat} {bs : List Value} {w w' : World} (h : Lib.IsBuilderF T e B b bs w) (hb : Below w.heap.size w w') : Lib.IsBuilderF T e B b bs w' :=
  h.elim (fun x => .inl (builder_at_below x hb)) (fun x => .inr (builder_at_below x hb))

set_option maxRecDepth 100000 in
set_option maxHeartbeats 4000000 in
theorem put_any (v : Value) (xs : List ByteArray) (w : World) (hr : ReadsO w w.heap.size v xs) (hn : xs.length ≤ maxLen) (hx : ∀ x ∈ xs, x.size ≤ 1000000) : Calls Tryd.prog 12 #[v] w (PutPost (rawOf xs) w) := by
  unfold maxLen at hn
  have HX : Hid (∀ wr, Below w.heap.size w wr → ReadsO wr wr.heap.size v xs) := fun wr hb => hr.below hb hb.size
  obtain ⟨o, c, rfl, _⟩ := hr
  by_cases h0 : xs.length = 0
  · have HN : Hid (PutPost (rawOf xs) w (.returned (.tuple #[.string ⟨#[]⟩, .int .i64 1])) w) := ⟨.inr (.inl ⟨by rw [List.eq_nil_of_length_eq_zero h0]; rfl, rfl⟩), Below.refl _ _⟩
    have e0 : ((xs.length : Int) == 0) = true := by rw [h0]; rfl
    clear hx h0
    go_enter Tryd.func12, Tryd.ntmps12
    go_wp2_with fail
    go_ret2
    exact HN.out
  have e0 : ((xs.length : Int) == 0) = false := by rw [beq_eq_false_iff_ne]; omega
  by_cases h40 : 40 < xs.length
  · have HN : Hid (PutPost (rawOf xs) w (.returned (.tuple #[.string ⟨#[]⟩, .int .i64 3])) w) := ⟨.inr (.inr ⟨raw_nil h0, by intro h; have := h.2.1; rw [raw_len] at this; omega, rfl⟩), Below.refl _ _⟩
    have e1 : decide (40 < (xs.length : Int)) = true := by simp; omega
    clear hx h0
    go_enter Tryd.func12, Tryd.ntmps12
    go_wp2_with fail
    go_ret2
    exact HN.out
  have e1 : decide (40 < (xs.length : Int)) = false := by simp; omega
  have HZ := Lib.hid hx
  have H0 := Lib.hid h0
  have HM := Lib.hid (fun k => body_mono xs k)
  clear hx h0
  go_enter Tryd.func12, Tryd.ntmps12
  go_wp2_with fail
  go_loopw [16] (fun i wr => ∃ k : Nat, k ≤ xs.length ∧ i = .int .i64 k ∧ (bodyOf (rawOf (xs.take k))).length ≤ 60000 ∧ Lib.IsBuilderF 45 5 w.heap.size w.heap.size (Lib.byteCells (bodyOf (rawOf (xs.take k)))) wr ∧ Below w.heap.size w wr) (fun i _ => xs.length - (intOf i).toNat)
  case atStart => exact ⟨0, Nat.zero_le _, rfl, by simp [rawOf, bodyOf], Lib.IsBuilderF.of (Lib.fresh_isBuilder _ _ w), (Below.refl _ w).alloc (Nat.le_refl _) _⟩
  case round =>
    obtain ⟨k, hk, rfl, hbz, hI, hB⟩ := hrel
    have hsz := hB.size
    have hlen : (Lib.byteCells (bodyOf (rawOf (xs.take k)))).length = (bodyOf (rawOf (xs.take k))).length := Lib.byteCells_length _
    by_cases hlt : k < xs.length
    · obtain ⟨o', c', hv', hcell0⟩ := HX.out wr hB
      cases hv'
      obtain ⟨b, f, rfl, hbB, hkc, hcell⟩ := hcell0 k xs[k] (List.getElem?_eq_getElem hlt)
      clear hcell0
      have hkc' : k < c := by omega
      have hxm := HZ.out xs[k] (List.getElem_mem hlt)
      have hnx := body_next xs k hlt
      have hmo := HM.out (k + 1)
      have hql := quote_len xs[k].data.toList
      rw [size_list] at hql
      generalize xs[k] = x at *
      rw [hnx, List.length_append, List.length_append] at hmo
      obtain ⟨bs, hbs⟩ : ∃ bs, bs = Lib.byteCells (bodyOf (rawOf (xs.take k))) := ⟨_, rfl⟩
      rw [← hbs] at hI hlen
      have HBS := Lib.hid hbs
      have HNX := Lib.hid hnx
      clear hbs hnx
      by_cases hbig : 12991 < bs.length + x.size
      · have e2 : decide (12991 < (bs.length : Int) + (x.size : Int)) = true := by simp; omega
        have HN : Hid (PutPost (rawOf xs) w (.returned (.tuple #[.string ⟨#[]⟩, .int .i64 3])) wr) := by
          refine ⟨.inr (.inr ⟨raw_nil H0.out, ?_, rfl⟩), hB⟩
          rintro ⟨_, _, h3⟩
          simp at hmo; omega
        have HLN := Lib.hid (builderLen_any w.heap.size w.heap.size bs wr hI)
        clear hmo hql
        go_wp2_with fail
        refine HLN.out.mono ?_
        rintro e w' ⟨rfl, rfl⟩
        go_wp2_with fail
        go_ret2
        exact HN.out
      · have e2 : decide (12991 < (bs.length : Int) + (x.size : Int)) = false := by simp; omega
        have HLN := Lib.hid (builderLen_any w.heap.size w.heap.size bs wr hI)
        have hqz : (quoteOf x.data.toList).length ≤ 40000 := by omega
        have HQ := Lib.hid (quote_any x (by omega) wr)
        have hqt : (txt (quoteOf x.data.toList)).size ≤ 40000 := by rw [txt_size]; exact hqz
        have hqd : Lib.strCells (txt (quoteOf x.data.toList)) = Lib.byteCells (quoteOf x.data.toList) := by rw [Lib.strCells_eq, txt_data]
        clear hmo hql
        generalize txt (quoteOf x.data.toList) = q at HQ hqt hqd
        have HQD := Lib.hid hqd
        clear hqd
        go_wp2_with fail
        refine HLN.out.mono ?_
        rintro e w' ⟨rfl, rfl⟩
        go_wp2_with fail
        refine HQ.out.mono ?_
        rintro e w2 ⟨rfl, hb2⟩
        have hB2 := hB.trans (hb2.mono hsz)
        have hI2 : Lib.IsBuilderF 45 5 w.heap.size w.heap.size bs w2 := builder_below hI hb2
        go_wp2_with fail
        refine (writeString_any w.heap.size w.heap.size bs q w2 hI2 (by omega) hB2.size).mono ?_
        rintro e w3 ⟨rfl, hI3, hB3, _⟩
        have hB3' := hB2.trans hB3
        go_wp2_with fail
        refine (writeString_any w.heap.size w.heap.size _ ⟨#[32]⟩ w3 (.inr hI3) (by rw [List.length_append, Lib.strCells_length]; show bs.length + q.size + 1 ≤ _; omega) hB3'.size).mono ?_
        rintro e w4 ⟨rfl, hI4, hB4, _⟩
        go_wp2_with fail
        go_roundw
        case rel =>
          refine ⟨k + 1, hlt, by go_num, ?_, ?_, hB3'.trans hB4⟩
          · rw [HNX.out]; simp only [List.length_append, List.length_cons, List.length_nil]; omega
          · rw [HNX.out, Lib.byteCells_append, Lib.byteCells_append, ← HBS.out]
            rw [HQD.out] at hI4
            exact .inr hI4
        case measure => simp [intOf]; omega
    · obtain rfl : k = xs.length := by omega
      rw [List.take_length] at hbz hI hlen
      have hsl := seal_any (txt (bodyOf (rawOf xs))) (by rw [txt_size]; unfold maxLen; omega)
      rw [txt_data] at hsl
      by_cases hbig : 12991 < (bodyOf (rawOf xs)).length
      · have HLN := Lib.hid (builderLen_any w.heap.size w.heap.size _ wr hI)
        have HN : Hid (PutPost (rawOf xs) w (.returned (.tuple #[.string ⟨#[]⟩, .int .i64 3])) wr) := by
          refine ⟨.inr (.inr ⟨raw_nil H0.out, ?_, rfl⟩), hB⟩
          rintro ⟨_, _, h3⟩
          omega
        generalize Lib.byteCells (bodyOf (rawOf xs)) = bs at *
        have e2 : decide (12991 < (bs.length : Int)) = true := by simp; omega
        clear hsl
        go_wp2_with fail
        refine HLN.out.mono ?_
        rintro e w' ⟨rfl, rfl⟩
        go_wp2_with fail
        go_ret2
        exact HN.out
      · have HLN := Lib.hid (builderLen_any w.heap.size w.heap.size _ wr hI)
        have HS := Lib.hid (builderString_any w.heap.size w.heap.size _ wr hI hsz)
        have HF : Hid (Fit (rawOf xs)) := ⟨by rw [raw_len]; have := H0.out; omega, by rw [raw_len]; omega, by omega⟩
        have HE : Hid (txt (bodyOf (rawOf xs)) ++ txt (sealOf (bodyOf (rawOf xs))) ++ ⟨#[10]⟩ = txt (lineOf (rawOf xs))) := by
          show _ = _
          rw [show (⟨#[10]⟩ : ByteArray) = txt [10] from rfl, txt_append, txt_append]; rfl
        have HSL := Lib.hid hsl
        have z1 : (txt (bodyOf (rawOf xs))).size = (bodyOf (rawOf xs)).length := txt_size _
        have z2 : (txt (sealOf (bodyOf (rawOf xs)))).size = 8 := by rw [txt_size, seal_len]
        have HS2 : Hid (Calls Tryd.prog 24 #[.pointer (some ⟨w.heap.size, 0, none⟩)] wr fun e w' => e = .returned (.string (txt (bodyOf (rawOf xs)))) ∧ Below w.heap.size wr w') := HS.out.mono fun e w' h => ⟨h.1, h.2.2.1⟩
        generalize txt (sealOf (bodyOf (rawOf xs))) = ts at HSL HE z2
        generalize txt (bodyOf (rawOf xs)) = tb at HSL HE z1 HS2
        clear HS hI
        generalize Lib.byteCells (bodyOf (rawOf xs)) = bs at *
        have e2 : decide (12991 < (bs.length : Int)) = false := by simp; omega
        have e3 : ¬ 9223372036854775807 < tb.size + ts.size := by omega
        have e4 : ¬ 9223372036854775807 < tb.size + ts.size + 1 := by omega
        have z3 : (tb ++ ts).size = tb.size + ts.size := ByteArray.size_append ..
        clear hsl
        go_wp2_with fail
        refine HLN.out.mono ?_
        rintro e w' ⟨rfl, rfl⟩
        go_wp2_with fail
        refine HS2.out.mono ?_
        rintro e w2 ⟨rfl, hb2⟩
        have hB2 := hB.trans hb2
        go_wp2_with fail
        refine (HSL.out _).mono ?_
        rintro e w3 ⟨rfl, hb3⟩
        go_wp2_with fail
        go_ret2
        refine ⟨.inl ⟨HF.out, ?_⟩, below2 hB2 hb3⟩
        rw [← HE.out]; rfl

end Go.Proofs.YtllkibdpjpdbbaaDoor
