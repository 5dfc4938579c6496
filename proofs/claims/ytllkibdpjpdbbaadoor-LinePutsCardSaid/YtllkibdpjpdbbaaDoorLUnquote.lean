/-
  What text.Unquote answers, for every text.
-/
import Derived.Lib.IndexBytes
import Derived.Test.YtllkibdpjpdbbaaDoorLUnq
namespace Go.Proofs.YtllkibdpjpdbbaaDoor
open Go.RowKit Go.Shelf

theorem quo_cancel {c d : UInt8} {x y : List UInt8} (e : quo c ++ x = quo d ++ y) : c = d ∧ x = y := by
  have hc := c.toNat_lt
  have hd := d.toNat_lt
  have hp37 : plainB 37 = false := rfl
  cases pc : plainB c <;> cases pd : plainB d
  · simp only [quo, pc, pd, Bool.false_eq_true, if_false, List.cons_append, List.nil_append, List.cons.injEq, true_and] at e
    obtain ⟨e1, e2, e3⟩ := e
    have h1 := hexOf_inj _ _ (by omega) (by omega) e1
    have h2 := hexOf_inj _ _ (by omega) (by omega) e2
    exact ⟨UInt8.toNat_inj.1 (by omega), e3⟩
  · simp only [quo, pc, pd, Bool.false_eq_true, if_false, if_true, List.cons_append, List.nil_append, List.cons.injEq] at e
    rw [← e.1, hp37] at pd; cases pd
  · simp only [quo, pc, pd, Bool.false_eq_true, if_false, if_true, List.cons_append, List.nil_append, List.cons.injEq] at e
    rw [e.1, hp37] at pc; cases pc
  · simp only [quo, pc, pd, if_true, List.cons_append, List.nil_append, List.cons.injEq] at e
    exact e
theorem quoAll_cons (c : UInt8) (r : List UInt8) : quoAll (c :: r) = quo c ++ quoAll r := by simp [quoAll]
theorem quoAll_prefix : ∀ (acc t : List UInt8) (rest : List UInt8), quoAll t = quoAll acc ++ rest → ∃ t', t = acc ++ t' ∧ quoAll t' = rest
  | [], t, rest, h => ⟨t, rfl, by simpa [quoAll] using h⟩
  | c :: a, [], rest, h => by
    have := congrArg List.length h
    have h2 := quo_ge c
    rw [quoAll_cons] at this
    simp only [quoAll, List.flatMap_nil, List.length_append, List.length_nil] at this
    omega
  | c :: a, d :: t, rest, h => by
    rw [quoAll_cons, quoAll_cons, List.append_assoc] at h
    obtain ⟨rfl, h2⟩ := quo_cancel h
    obtain ⟨t', h3, h4⟩ := quoAll_prefix a t rest h2
    exact ⟨t', by rw [h3]; rfl, h4⟩
def UnqIs (l : List UInt8) (e : Ending) : Prop :=
  (∀ t, quoteOf t = l → e = .returned (.tuple #[.string (txt t), .int .i64 0])) ∧ ((∀ t, quoteOf t ≠ l) → e = .returned (.tuple #[.string (txt []), .int .i64 2]))
theorem unq_one {l acc : List UInt8} (h : quoteOf acc = l) : UnqIs l (.returned (.tuple #[.string (txt acc), .int .i64 0])) :=
  ⟨fun t ht => by rw [quote_inj t acc (ht.trans h.symm)], fun hn => absurd h (hn acc)⟩
theorem unq_no {l : List UInt8} (h : ∀ t, quoteOf t ≠ l) : UnqIs l (.returned (.tuple #[.string (txt []), .int .i64 2])) :=
  ⟨fun t ht => absurd ht (h t), fun _ => rfl⟩
theorem quote_some_byte (t : List UInt8) : quoteOf t ≠ [] := by
  intro h
  have := (quote_len t).1
  rw [h] at this
  cases t with
  | nil => cases h
  | cons c r => simp at this
theorem quote_all {l acc : List UInt8} (h : quoAll acc = l) (h0 : l ≠ []) : quoteOf acc = l := by
  unfold quoteOf
  rw [if_neg, h]
  rintro rfl
  exact h0 h.symm
theorem unq_stuck {l acc rest : List UInt8} (h : l = quoAll acc ++ rest) (h37 : l ≠ [37]) (h0 : rest ≠ []) (hn : ∀ d r, rest ≠ quo d ++ r) : ∀ t, quoteOf t ≠ l := by
  intro t ht
  unfold quoteOf at ht
  split at ht
  · exact h37 ht.symm
  · obtain ⟨t', _, h2⟩ := quoAll_prefix acc t rest (ht.trans h)
    cases t' with
    | nil => exact h0 h2.symm
    | cons c r => rw [quoAll_cons] at h2; exact hn c _ h2.symm
def UnqPost (s : ByteArray) (w : World) (e : Ending) (w' : World) : Prop := UnqIs s.data.toList e ∧ Below w.heap.size w w'
set_option maxRecDepth 100000 in
set_option maxHeartbeats 2000000 in
theorem unquote_any (s : ByteArray) (hs : s.size ≤ 140737488355000) (w : World) : Calls Tryd.prog 46 #[.string s] w (UnqPost s w) := by
  by_cases h37 : s.toList = [37]
  · have e1 : (s.toList == [37]) = true := by simp [h37]
    have HN : Hid (UnqPost s w (.returned (.tuple #[.string ⟨#[]⟩, .int .i64 0])) w) := ⟨unq_one (acc := []) (by rw [← Lib.toList_data, h37]; rfl), Below.refl _ _⟩
    clear h37
    go_enter Tryd.func46, Tryd.ntmps46
    go_wp2
    go_ret2
    exact HN.out
  have e1 : (s.toList == [37]) = false := by simpa using h37
  by_cases h0 : s.toList = []
  · have HN : Hid (UnqPost s w (.returned (.tuple #[.string ⟨#[]⟩, .int .i64 2])) w) := ⟨unq_no (by rw [← Lib.toList_data, h0]; exact quote_some_byte), Below.refl _ _⟩
    clear h37
    go_enter Tryd.func46, Tryd.ntmps46
    go_wp2
    go_ret2
    exact HN.out
  have e0 : s.toList.isEmpty = false := by simpa using h0
  rw [Lib.toList_data] at h37 h0
  have H37 := Lib.hid h37
  have H0 := Lib.hid h0
  have HS := Lib.hid (size_list s)
  clear h37 h0
  go_enter Tryd.func46, Tryd.ntmps46
  go_wp2
  go_loopw [5] (fun i wr => ∃ (k : Nat) (acc : List UInt8), k ≤ s.size ∧ i = .int .i64 k ∧ quoAll acc = s.data.toList.take k ∧ Lib.IsBuilderF 45 5 w.heap.size w.heap.size (Lib.byteCells acc) wr ∧ Below w.heap.size w wr) (fun i _ => s.size - (intOf i).toNat)
  case atStart => exact ⟨0, [], Nat.zero_le _, rfl, rfl, Lib.IsBuilderF.of (Lib.fresh_isBuilder _ _ w), (Below.refl _ w).alloc (Nat.le_refl _) _⟩
  case round =>
    obtain ⟨k, acc, hk, rfl, hq, hI, hB⟩ := hrel
    have hsz := hB.size
    have hal := quoAll_ge acc
    rw [hq] at hal
    have hal2 : acc.length ≤ k := Nat.le_trans hal (List.length_take_le _ _)
    have HQ := Lib.hid hq
    clear hq hal
    by_cases hlt : k < s.size
    · have hex : (s.extract k s.size).size = s.size - k := by rw [ByteArray.size_extract]; omega
      have hdrop : (s.extract k s.size).data.toList = s.data.toList.drop k := Lib.extract_to_end s k
      have hf := first_any (s.extract k s.size) (by rw [hex]; omega) (by rw [hex]; unfold maxLen; omega) wr
      rw [hdrop] at hf
      have HF := Lib.hid hf
      clear hf hex hdrop
      go_wp2_with fail
      refine HF.out.mono ?_
      rintro e w1 ⟨c, q, rfl, hF, m1, rfl⟩
      have hB1 := below_drewN hB m1
      have hI1 : Lib.IsBuilderF 45 5 w.heap.size w.heap.size (Lib.byteCells acc) (wr.drewN m1) := hI
      rcases hF with ⟨rfl, rfl, hn⟩ | ⟨d, r, rfl, rfl, hr⟩
      · have HN : Hid (UnqPost s w (.returned (.tuple #[.string ⟨#[]⟩, .int .i64 2])) (wr.drewN m1)) := by
          refine ⟨unq_no (unq_stuck (acc := acc) (rest := s.data.toList.drop k) ?_ H37.out ?_ hn), hB1⟩
          · rw [HQ.out, List.take_append_drop]
          · intro h
            have := congrArg List.length h
            rw [List.length_drop, HS.out] at this
            simp at this; omega
        clear hn
        go_wp2_with fail
        go_ret2
        exact HN.out
      · have hq1 := quo_ge d
        have hq3 := quo_len d
        have hne : (((quo d).length : Int) == 0) = false := by rw [beq_eq_false_iff_ne]; omega
        have hkd : k + (quo d).length ≤ s.size := by
          have := congrArg List.length hr
          rw [List.length_drop, HS.out, List.length_append] at this
          omega
        have HN : Hid (quoAll (acc ++ [d]) = s.data.toList.take (k + (quo d).length)) := by
          show _ = _
          rw [quoAll_snoc, HQ.out, List.take_add, hr, List.take_left]
        obtain ⟨q, hq⟩ : ∃ q, q = (quo d).length := ⟨_, rfl⟩
        rw [← hq] at hq1 hq3 hne hkd HN ⊢
        clear hr hq
        go_wp2_with fail
        refine (writeByte_any w.heap.size w.heap.size _ _ _ hI1 (by rw [Lib.byteCells_length]; omega) (by show w.heap.size ≤ wr.heap.size; omega)).mono ?_
        rintro e w2 ⟨rfl, hI2, hB2, _⟩
        go_wp2_with fail
        go_roundw
        case rel => exact ⟨k + q, acc ++ [d], hkd, by go_num, HN.out, by rw [Lib.byteCells_append]; exact .inr hI2, hB1.trans hB2⟩
        case measure => simp [intOf]; omega
    · obtain rfl : k = s.size := by omega
      have hall : s.data.toList.take s.size = s.data.toList := List.take_of_length_le (by rw [Array.length_toList]; exact Nat.le_refl _)
      have HA : Hid (quoAll acc = s.data.toList) := by show _ = _; rw [HQ.out, hall]
      clear hall
      go_wp2_with fail
      refine (builderString_any w.heap.size w.heap.size _ wr hI (by omega)).mono ?_
      rintro e w1 ⟨rfl, _, hB1, _⟩
      go_wp2_with fail
      go_ret2
      exact ⟨unq_one (quote_all HA.out H0.out), hB.trans hB1⟩

end Go.Proofs.YtllkibdpjpdbbaaDoor
