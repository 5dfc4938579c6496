/-
  TextBack: quoted words, put together and cut again, unquoted, are the texts that they stand for: for every list of texts. No condition.
-/
import Derived.Test.YtebamellddoaeaaRow
import Derived.Maps.AppendAt
import Derived.Test.YtebamellddoaeaaRowS
import Derived.Test.YtebamellddoaeaaSmall
import Derived.Test.YtebamellddoaeaaUnquote
namespace Go.Proofs.Ytebamellddoaeaa
open Go.ChangeShapes Go.WideShapes Go.ChangeAt Go.RowKit

def qtxt (x : ByteArray) : ByteArray := txt (quoteOf x.data.toList)
theorem sign_not_blank {c : UInt8} (h : signB c = true) : blankB c = false := by
  simp only [signB, Bool.or_eq_true, decide_eq_true_eq] at h
  simp only [blankB, decide_eq_false_iff_not]
  rcases h with h | h
  · have := plain_cases h; omega
  · omega
theorem pieces_sep (p : UInt8 → Bool) (a : List UInt8) (c : UInt8) (b : List UInt8) (hc : p c = true) : pieces p (a ++ c :: b) = pieces p a ++ pieces p b := by
  induction a with
  | nil => simp [pieces, hc]
  | cons x a ih =>
    simp only [List.cons_append, pieces, ih]
    split
    · simp
    · cases h : pieces p a with
      | nil => exact absurd h (pieces_ne p a)
      | cons y z => simp
theorem pieces_joined : ∀ (q : List UInt8) (qs : List (List UInt8)), (∀ x ∈ q :: qs, ∀ c ∈ x, blankB c = false) → pieces blankB (Lib.join (q :: qs) [32]) = q :: qs
  | q, [], h => by rw [Lib.join_one, pieces_none blankB q (h q (by simp))]
  | q, y :: r, h => by
    have ih := pieces_joined y r (fun x hx => h x (by simp at hx ⊢; exact .inr hx))
    have e : Lib.join (q :: y :: r) [32] = q ++ 32 :: Lib.join (y :: r) [32] := by
      rw [Lib.join_cons, Lib.join_cons]; simp [Lib.joinTail]
    rw [e, pieces_sep blankB q 32 _ rfl, ih, pieces_none blankB q (h q (by simp))]
    rfl
theorem words_back (xs : List ByteArray) : wordsOf (joinOf (xs.map qtxt)) = xs.map qtxt := by
  cases xs with
  | nil => rw [wordsOf_eq]; rfl
  | cons x r =>
    have e : joinOf ((x :: r).map qtxt) = Lib.join (quoteOf x.data.toList :: r.map (fun x => quoteOf x.data.toList)) [32] := by
      unfold joinOf
      congr 1
      simp [qtxt, Function.comp_def]
    have hb : ∀ y ∈ quoteOf x.data.toList :: r.map (fun x => quoteOf x.data.toList), ∀ c ∈ y, blankB c = false := by
      intro y hy c hc
      have : ∃ z : ByteArray, y = quoteOf z.data.toList := by
        rcases List.mem_cons.1 hy with rfl | hy
        · exact ⟨x, rfl⟩
        · obtain ⟨z, _, rfl⟩ := List.mem_map.1 hy; exact ⟨z, rfl⟩
      obtain ⟨z, rfl⟩ := this
      exact sign_not_blank (quote_signs _ c hc)
    rw [e, wordsOf_eq, pieces_joined _ _ hb]
    have hf : ∀ l : List ByteArray, (l.map (fun x => quoteOf x.data.toList)).filter (fun p => !p.isEmpty) = l.map (fun x => quoteOf x.data.toList) := by
      intro l
      rw [List.filter_eq_self]
      intro a ha
      obtain ⟨z, _, rfl⟩ := List.mem_map.1 ha
      simpa using quote_some_byte z.data.toList
    have := hf (x :: r)
    simp only [List.map_cons] at this ⊢
    rw [this]
    simp [qtxt, Function.comp_def]
theorem lens_le (m : Nat) : ∀ qs : List (List UInt8), (∀ q ∈ qs, q.length ≤ m) → Lib.lens qs ≤ m * qs.length
  | [], _ => by simp [Lib.lens]
  | q :: r, h => by
    have ih := lens_le m r (fun x hx => h x (by simp [hx]))
    have h1 := h q (by simp)
    simp only [Lib.lens, List.map_cons, List.sum_cons, List.length_cons] at ih ⊢
    rw [Nat.mul_add]
    omega
theorem joined_len (xs : List ByteArray) (hs : smallB xs = true) : (joinOf (xs.map qtxt)).length ≤ 40000 := by
  simp only [smallB, Bool.and_eq_true, decide_eq_true_eq, List.all_eq_true] at hs
  obtain ⟨h1, h2⟩ := hs
  cases xs with
  | nil => simp [joinOf, Lib.join_nil]
  | cons x r =>
    unfold joinOf
    rw [List.map_cons, List.map_cons, Lib.join_length]
    have h3 := lens_le 900 (((x :: r).map qtxt).map (·.data.toList)) (fun q hq => by
      obtain ⟨y, hy, rfl⟩ := List.mem_map.1 hq
      obtain ⟨z, hz, rfl⟩ := List.mem_map.1 hy
      have h4 := (quote_len z.data.toList).2
      have h5 := h2 z hz
      rw [size_list] at h4
      simp only [qtxt, txt_data]
      omega)
    simp only [List.map_cons, List.length_cons, List.length_map, List.length_nil] at h1 h3 ⊢
    omega
theorem ownsRow_below {W W' : World} {base : Nat} {e : TypeId} {size : Nat} {v : Value} {n : Nat} {xs : List Value} (ho : W.ownsRow base e size v n xs) (hb : Below W.heap.size W W') : W'.ownsRow base e size v n xs := by
  refine ⟨ho.1, ?_⟩
  rcases ho.2 with hn | ⟨g, cap, cur, rfl, h1, hgg, rest⟩
  · exact .inl hn
  · refine .inr ⟨g, cap, cur, rfl, h1, ?_, rest⟩
    rw [hb.block g (Array.getElem?_eq_some_iff.1 hgg).1]
    exact hgg
theorem unquote_back (x : ByteArray) (h : x.size ≤ 300) (w : World) : Calls Try.prog 15 #[.string (qtxt x)] w fun e w' => e = .returned (.tuple #[.string x, .int .i64 0]) ∧ Below w.heap.size w w' := by
  have hq := (quote_len x.data.toList).2
  rw [size_list] at hq
  refine (unquote_any (qtxt x) (by rw [qtxt, txt_size]; omega) w).mono fun e w' h => ⟨?_, h.2⟩
  have := h.1.1 x.data.toList (by rw [qtxt, txt_data])
  rwa [txt_toList] at this

theorem infoStr : (Try.prog.info? 9).map (fun i => (i.zero, i.size, i.bytes)) = some (some (.string ⟨#[]⟩), 1, 16) := by kernel_rfl

set_option maxRecDepth 100000 in
set_option maxHeartbeats 2000000 in
theorem textBack_out (v : Value) (xs : List ByteArray) (w : World) (hr : ReadsO w w.heap.size v xs) (hn : xs.length ≤ maxLen) (h : smallB xs = false) : Calls Try.prog 5 #[v] w fun e w' => e = .returned (.bool true) ∧ Below w.heap.size w w' := by
  have hv := hr
  obtain ⟨o, c, rfl, hx0⟩ := hv
  clear hx0
  have HS : Hid (∀ w1 : World, Below w.heap.size w w1 → Calls Try.prog 19 #[.slice o xs.length c] w1 fun e w' => e = .returned (.bool false) ∧ w1 = w') := fun w1 hb => small_f _ xs w.heap.size w1 (hr.below hb (Nat.le_refl _)) hn h
  clear h hr
  go_enter Try.func5, Try.ntmps5
  go_wp2_with fail
  refine (shown_any w).mono ?_
  rintro e w1 ⟨rfl, hb1⟩
  go_wp2_with fail
  refine (HS.out w1 hb1).mono ?_
  rintro e w2 ⟨rfl, rfl⟩
  go_wp2_with fail
  go_ret
  exact ⟨rfl, hb1⟩

set_option maxRecDepth 100000 in
set_option maxHeartbeats 8000000 in
theorem textBack_in (v : Value) (xs : List ByteArray) (w : World) (hr : ReadsO w w.heap.size v xs) (h : smallB xs = true) : Calls Try.prog 5 #[v] w fun e w' => e = .returned (.bool true) ∧ Below w.heap.size w w' := by
  have hsm : xs.length ≤ 40 ∧ ∀ x ∈ xs, x.size ≤ 300 := by
    simp only [smallB, Bool.and_eq_true, decide_eq_true_eq, List.all_eq_true] at h
    exact h
  obtain ⟨h40, h300⟩ := hsm
  have hn : xs.length ≤ maxLen := by unfold maxLen; omega
  have hjl := joined_len xs h
  have hv := hr
  obtain ⟨o, c, rfl, hx0⟩ := hv
  clear hx0
  have HS : Hid (∀ w1 : World, Below w.heap.size w w1 → Calls Try.prog 19 #[.slice o xs.length c] w1 fun e w' => e = .returned (.bool true) ∧ w1 = w') := fun w1 hb => small_t _ xs w.heap.size w1 (hr.below hb (Nat.le_refl _)) hn h
  have HX : Hid (∀ (w1 : World), Below w.heap.size w w1 → ∀ k x, xs[k]? = some x → ∃ b f, o = some ⟨b, f, none⟩ ∧ k < c ∧ w1.cell? ⟨b, f + k, none⟩ = some (.string x)) := by
    intro w1 hb k x hk
    obtain ⟨o', c', e, hx⟩ := hr.below hb (Nat.le_refl _)
    cases e
    obtain ⟨b, f, ho, _, hc, hcell⟩ := hx k x hk
    have := (List.getElem?_eq_some_iff.1 hk).1
    exact ⟨b, f, ho, by omega, hcell⟩
  have H3 := Lib.hid h300
  have HJL := Lib.hid hjl
  obtain ⟨i0, hi, hz0, hz1, hz2⟩ := info_parts infoStr
  clear h hr h300 hjl
  go_enter Try.func5, Try.ntmps5
  go_wp2_with fail
  refine (shown_any w).mono ?_
  rintro e w1 ⟨rfl, hb1⟩
  go_wp2_with fail
  refine (HS.out w1 hb1).mono ?_
  rintro e w2 ⟨rfl, rfl⟩
  go_wp2_with fail
  go_loopw [5, 6] (fun v i wr => ∃ k : Nat, k ≤ xs.length ∧ i = .int .i64 k ∧ wr.ownsRow w.heap.size 9 1 v k (((xs.take k).map qtxt).map Value.string) ∧ Below w.heap.size w wr) (fun _ i _ => xs.length - (intOf i).toNat)
  case atStart => exact ⟨0, Nat.zero_le _, rfl, World.ownsRow_nil _ _ _ _, hb1⟩
  case round =>
    obtain ⟨k, hk, rfl, hown, hB⟩ := hrel
    have hsz := hB.size
    by_cases hlt : k < xs.length
    · obtain ⟨b, f, ho, hkc, hcell⟩ := HX.out wr hB k xs[k] (List.getElem?_eq_getElem hlt)
      have hnx : ((xs.take (k + 1)).map qtxt).map Value.string = ((xs.take k).map qtxt).map Value.string ++ [.string (qtxt xs[k])] := by
        rw [List.take_succ_eq_append_getElem hlt, List.map_append, List.map_append]; rfl
      have hx3 := H3.out xs[k] (List.getElem_mem hlt)
      have hml : k + 1 ≤ maxLen := by unfold maxLen; omega
      subst ho
      generalize xs[k] = x at hcell hnx hx3
      have HNX := Lib.hid hnx
      clear hnx
      go_wp2_with fail
      have hq := quote_any x (by omega) wr
      refine hq.mono ?_
      rintro e w4 ⟨rfl, hb4⟩
      have hB4 := hB.trans (hb4.mono hsz)
      have hsz4 := hB4.size
      have hown1 := ownsRow_below hown hb4
      clear hq hown hb4
      go_wp2_with (at_builtin; refine wpList_append_own _ rfl _ _ 30 rfl w.heap.size 9 i0 (.string ⟨#[]⟩) 1 16 Try.underlying30 hi hz0 hz1 hz2 rfl (by decide) _ _ _ rfl (hown1.alloc _) ⟨w4.heap.size, 0, none⟩ 1 1 [_] rfl rfl (cell_one_new _ _ _) (by simp [Value.oneCell']) hml (by omega) (by simp; omega) ?_; intro v' w5 hown' hgrow _)
      have hB5 := (hB4.alloc hsz4 _).grown hgrow (by simp; omega) (fun j ej => (hown1.lt j ej).1)
      go_roundw
      case rel =>
        refine ⟨k + 1, hlt, by go_num, ?_, hB5⟩
        rw [HNX.out]
        exact hown'
      case measure => simp [intOf]; omega
    · obtain rfl : k = xs.length := by omega
      rw [List.take_length] at hown
      have hrd : Reads wr wr.heap.size _ (xs.map qtxt) := Reads.of_owns (base := w.heap.size) (by rw [List.length_map]; exact hown)
      obtain ⟨o5, c5, hv5, hx5⟩ := hrd.o
      clear hx5
      rw [List.length_map] at hv5
      subst hv5
      have hJ := textJoin_any _ (xs.map qtxt) wr hrd.o (by rw [List.length_map]; omega) (by have := HJL.out; omega)
      have hW := fun w3 : World => words_any (txt (joinOf (xs.map qtxt))) (by rw [txt_size]; have := HJL.out; omega) w3
      rw [txt_data, words_back] at hW
      generalize txt (joinOf (xs.map qtxt)) = J at hJ hW
      have HJ := Lib.hid hJ
      have HW := Lib.hid hW
      clear hJ hW hown
      go_wp2_with fail
      refine HJ.out.mono ?_
      rintro e w3 ⟨rfl, hb3⟩
      have hB3 := hB.trans (hb3.mono hsz)
      go_wp2_with fail
      refine (HW.out w3).mono ?_
      rintro e w4 ⟨v4, rfl, hr4, hb4⟩
      have hB4 := hB3.trans (hb4.mono hB3.size)
      have hrd3 := hrd.below hb3 hb3.size
      have hrd4 := (hrd3.below hb4 (by exact hb4.size)).below (Below.refl _ _) (Nat.le_refl _)
      have hS := same_tb v4 _ (xs.map qtxt) (xs.map qtxt) w4.heap.size w4 hr4 hrd4 (by rw [List.length_map]; exact hn) rfl
      have HSS := Lib.hid hS
      clear hS hrd hrd3 hrd4 hb3 hb4 hB3
      go_wp2_with fail
      refine HSS.out.mono ?_
      rintro e w5 ⟨rfl, hb5⟩
      have hB5 := hB4.trans (hb5.mono hB4.size)
      have hr5 := hr4.below hb5 hb5.size
      obtain ⟨o6, c6, hv6, hx6⟩ := hr5.o
      clear hx6
      rw [List.length_map] at hv6
      subst hv6
      have HR5 := Lib.hid hr5
      clear hr4 hr5 hb5 hB4 HSS
      go_wp2_with fail
      go_loopw [8] (fun i wq => ∃ k : Nat, k ≤ xs.length ∧ i = .int .i64 k ∧ Below w5.heap.size w5 wq) (fun i _ => xs.length - (intOf i).toNat)
      case atStart => exact ⟨0, Nat.zero_le _, rfl, Below.refl _ _⟩
      case round =>
        obtain ⟨k, hk', rfl, hBq⟩ := hrel
        have hBw := hB5.trans (hBq.mono hB5.size)
        by_cases hlt2 : k < xs.length
        · obtain ⟨b, f, ho, hkc, hcell⟩ := HX.out _ hBw k xs[k] (List.getElem?_eq_getElem hlt2)
          have hHx := fun w8 (h8 : Below w.heap.size w w8) => HX.out w8 h8 k xs[k] (List.getElem?_eq_getElem hlt2)
          obtain ⟨o7, c7, e7, hx7⟩ := (HR5.out.below hBq hBq.size).o
          obtain ⟨b6, f6, ho6, _, hc6, hcell6⟩ := hx7 k (qtxt xs[k]) (by rw [List.getElem?_map, List.getElem?_eq_getElem hlt2]; rfl)
          rw [List.length_map] at e7 hc6
          cases e7
          have hkc6 : k < c6 := by omega
          have hx3 := H3.out xs[k] (List.getElem_mem hlt2)
          subst ho
          subst ho6
          have hself := str_ne_f (rfl : xs[k] = xs[k])
          generalize xs[k] = x at hcell hcell6 hx3 hself hHx
          have HU := Lib.hid (fun w8 : World => unquote_back x hx3 w8)
          have HH := Lib.hid hHx
          generalize qtxt x = qx at hcell6 HU
          clear hHx hx7 hcell
          go_wp2_with fail
          refine (HU.out _).mono ?_
          rintro e w8 ⟨rfl, hb8⟩
          have hB8 := hBw.trans (hb8.mono hBw.size)
          obtain ⟨b9, f9, e9, _, hcell9⟩ := HH.out w8 hB8
          cases e9
          go_wp2_with fail
          go_roundw
          case rel => exact ⟨k + 1, hlt2, by go_num, hBq.trans (hb8.mono hBq.size)⟩
          case measure => simp [intOf]; omega
        · go_wp2_with fail
          go_ret
          exact ⟨rfl, hBw⟩

theorem textBack_walk (v : Value) (xs : List ByteArray) (w : World) (hr : ReadsO w w.heap.size v xs) (hn : xs.length ≤ maxLen) : Calls Try.prog 5 #[v] w fun e w' => e = .returned (.bool true) ∧ Below w.heap.size w w' := by
  cases h : smallB xs with
  | false => exact textBack_out v xs w hr hn h
  | true => exact textBack_in v xs w hr h

set_option maxRecDepth 100000 in
theorem textBack_lifted (os : Os) (started : os.Started) (H : Type) (enc : TypeId × Value → H) :
    ReturnsInHanded {} Try.checked os 5 .any (Rows.textBackSpec.pre6 enc Try.prog Try.f5 Rows.textBackRow.domain false) (Rows.textBackSpec.post enc Try.prog Try.f5 false true false false) := by
  refine returnsInHanded_of_change (C := Try.checked) own_knob started (by kernel_rfl) Try.func5
    (ChangeSpec.witness6 (enc := enc) (C := Try.checked) false ⟨#[], #[.slice none 0 0], []⟩ 8 (by kernel_rfl) (by kernel_rfl) (by kernel_rfl) (by kernel_rfl)) ?_
  intro W base args ds gs before hval0 hW _ _
  have hval : ∀ (j : Nat) t v, Try.f5.params[j]? = some t → args[j]? = some v → Value.okWide Try.prog W .any base t v := hval0
  have hW' := hW
  obtain ⟨p, q, hA0, hV, rfl, hfz, hnd⟩ := hW
  have hA : DataW.TrodAll enc Try.prog W 0 (fun _ => true) true Try.f5.params.toList args.toList ds p := hA0
  rw [Try.params5] at hA hval
  obtain ⟨v0, d0, rfl, rfl, h0⟩ := trodAll_one hA
  obtain ⟨rfl, rfl⟩ := trodVars_none hV
  clear hA0 hval0
  simp only [List.append_nil] at hW'
  have hlt : ∀ x ∈ p, x.block < W.heap.size := fun x hx => by simpa using hW'.lt x hx
  obtain ⟨⟨xs, hn, hr⟩, hback⟩ := open_list (hval 0 30 v0 rfl rfl) h0 hlt
  refine (textBack_walk v0 xs W hr hn).mono fun e W' h => ⟨.bool true, h.1, ?_⟩
  exact post_true_at hW' rfl (by kernel_rfl) Try.underlying4 rfl (trodAll_mk1 (hback W' h.2)) h.2

theorem textBack_holds : Rows.TextBackSaid :=
  OpenClaim.holds_of_wide 5 Try.f5 rfl rfl rfl rfl rfl rfl rfl ⟨rfl, rfl, rfl, rfl, rfl⟩ rfl rfl rfl rfl rfl (by kernel_rfl) Try.func5 (by kernel_rfl)
    (of_decide_eq_true (by kernel_rfl)) (by unfold Func.isWrapper; first | (rw [if_pos (by decide +kernel)]; kernel_rfl) | (rw [if_neg (by decide +kernel)]; exact ⟨rfl, rfl⟩))
    (fun os started H enc _ => textBack_lifted os started H enc)

end Go.Proofs.Ytebamellddoaeaa
