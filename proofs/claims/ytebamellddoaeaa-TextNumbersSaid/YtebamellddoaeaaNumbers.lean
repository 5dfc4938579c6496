/-
  TextNumbers: a number's digits, and nothing else, are that number: for every number and every text behind. No condition.
-/
import Derived.Test.YtebamellddoaeaaRow
import Derived.Test.YtebamellddoaeaaRefPath
namespace Go.Proofs.Ytebamellddoaeaa
open Go.ChangeShapes Go.WideShapes Go.ChangeAt Go.RowKit

def digAt (i : Nat) : UInt8 := ([48, 49, 50, 51, 52, 53, 54, 55, 56, 57] : List UInt8).getD i 0
theorem dig_extract (i : Nat) (h : i < 10) : (ByteArray.mk #[48, 49, 50, 51, 52, 53, 54, 55, 56, 57]).extract i (i + 1) = txt [digAt i] := by
  rw [extract_txt]
  match i, h with
  | 0, _ => rfl
  | 1, _ => rfl
  | 2, _ => rfl
  | 3, _ => rfl
  | 4, _ => rfl
  | 5, _ => rfl
  | 6, _ => rfl
  | 7, _ => rfl
  | 8, _ => rfl
  | 9, _ => rfl
  | _ + 10, h => exact absurd h (by omega)
theorem digAt_nat (i : Nat) (h : i < 10) : (digAt i).toNat = 48 + i := by
  match i, h with
  | 0, _ => rfl
  | 1, _ => rfl
  | 2, _ => rfl
  | 3, _ => rfl
  | 4, _ => rfl
  | 5, _ => rfl
  | 6, _ => rfl
  | 7, _ => rfl
  | 8, _ => rfl
  | 9, _ => rfl
  | _ + 10, h => exact absurd h (by omega)

theorem numVal_from (l : List UInt8) : ∀ a : Int, l.foldl (fun n c => n * 10 + ((c.toNat : Int) - 48)) a = a * 10 ^ l.length + numVal l := by
  induction l with
  | nil => intro a; simp [numVal]
  | cons c r ih =>
    intro a
    have h1 := ih (a * 10 + ((c.toNat : Int) - 48))
    have h2 := ih ((c.toNat : Int) - 48)
    have e2 : numVal (c :: r) = r.foldl (fun n c => n * 10 + ((c.toNat : Int) - 48)) ((c.toNat : Int) - 48) := by simp [numVal]
    rw [List.foldl_cons, h1, e2, h2, List.length_cons, Int.pow_succ]
    rw [Int.add_mul, Int.mul_assoc, Int.mul_comm 10, Int.add_assoc]
theorem numVal_cons (c : UInt8) (l : List UInt8) : numVal (c :: l) = ((c.toNat : Int) - 48) * 10 ^ l.length + numVal l := by
  have := numVal_from l ((c.toNat : Int) - 48)
  rw [← this]; simp [numVal]
theorem numVal_append (a b : List UInt8) : numVal (a ++ b) = numVal a * 10 ^ b.length + numVal b := by
  have := numVal_from b (numVal a)
  rw [← this]; simp [numVal]

/-- What is cut off n so far is d, and k is left. -/
structure DecAt (n k : Nat) (d : List UInt8) : Prop where
  all : allB digB d = true
  len : d.length ≤ 9
  less : k < 10 ^ (9 - d.length)
  sum : (n : Int) = k * 10 ^ d.length + numVal d
  none : d = [] → k = n
  head : d ≠ [] → k = 0 → d.head? ≠ some 48 ∨ d = [48] ∧ n = 0

theorem dec_start (n : Nat) (h : n ≤ 999999999) : DecAt n n [] := ⟨rfl, by simp, by simp; omega, by simp [numVal], fun _ => rfl, fun h => absurd rfl h⟩
theorem digAt_digB (i : Nat) (h : i < 10) : digB (digAt i) = true := by have := digAt_nat i h; simp [digB]; omega
theorem dec_step {n k : Nat} {d : List UInt8} (h : DecAt n k d) (hg : 0 < k ∨ d = []) : DecAt n (k / 10) (digAt (k % 10) :: d) := by
  have hm : k % 10 < 10 := Nat.mod_lt _ (by omega)
  have hl : d.length ≤ 8 := by
    rcases hg with hg | hg
    · rcases Nat.lt_or_ge d.length 9 with h1 | h1
      · omega
      · have := h.less
        rw [show 9 - d.length = 0 by omega] at this
        simp at this; omega
    · simp [hg]
  refine ⟨?_, by simp; omega, ?_, ?_, fun e => by simp at e, fun _ h0 => ?_⟩
  · have h1 := h.all
    unfold allB at h1 ⊢
    rw [List.all_cons, h1, digAt_digB _ hm]; rfl
  · have h1 := h.less
    have e : 9 - d.length = (9 - (d.length + 1)) + 1 := by omega
    rw [List.length_cons]
    rw [e, Nat.pow_succ] at h1
    omega
  · rw [h.sum, numVal_cons, List.length_cons, digAt_nat _ hm, Int.pow_succ]
    have e : (k : Int) = ((k / 10 : Nat) : Int) * 10 + ((k % 10 : Nat) : Int) := by omega
    have e3 : (((48 + k % 10 : Nat) : Int) - 48) = ((k % 10 : Nat) : Int) := by omega
    rw [e3]
    conv => lhs; rw [e]
    rw [Int.add_mul, Int.mul_assoc, Int.mul_comm 10, Int.add_assoc]
  · rw [List.head?_cons]
    rcases Nat.eq_zero_or_pos k with hk | hk
    · right
      have hd : d = [] := by rcases hg with hg | hg; omega; exact hg
      have := h.none hd
      subst hd
      refine ⟨?_, by omega⟩
      rw [show k % 10 = 0 by omega]; rfl
    · left
      have : k % 10 ≠ 0 := by omega
      intro e
      have e1 := digAt_nat _ hm
      have e2 := Option.some.inj e
      rw [e2] at e1
      have : (48 : UInt8).toNat = 48 := rfl
      omega
theorem dec_val {n : Nat} {d : List UInt8} (h : DecAt n 0 d) : numVal d = n := by have := h.sum; simp at this; omega
theorem dec_yes {n : Nat} {d : List UInt8} (h : DecAt n 0 d) (h0 : d ≠ []) : numB d = true := by
  have e1 : d.isEmpty = false := by simpa using h0
  have e2 : (decide (1 < d.length) && d.head? == some 48) = false := by
    rcases h.head h0 rfl with h1 | ⟨h1, _⟩
    · simp [h1]
    · subst h1; rfl
  unfold numB
  rw [e1, e2, h.all]
  simp [h.len]
theorem dec_zero {n : Nat} {d : List UInt8} (_h : DecAt n 0 d) (h0 : d ≠ []) : numB (48 :: d) = false := by
  cases d with
  | nil => exact absurd rfl h0
  | cons c r => unfold numB; simp
theorem dec_more {n : Nat} {d : List UInt8} (h : DecAt n 0 d) (t : List UInt8) (ht : numB (d ++ t) = true) : (n : Int) ≤ numVal (d ++ t) := by
  have hall : allB digB (d ++ t) = true := by
    unfold numB at ht
    simp only [Bool.and_eq_true] at ht
    exact ht.2
  have h2 : allB digB t = true := by
    unfold allB at hall ⊢
    rw [List.all_append, Bool.and_eq_true] at hall
    exact hall.2
  have h1 := (numVal_bd t h2).1
  rw [numVal_append, dec_val h]
  have hp : (1 : Int) ≤ 10 ^ t.length := Int.pow_pos (by decide)
  have : (n : Int) * 1 ≤ n * 10 ^ t.length := Int.mul_le_mul_of_nonneg_left hp (by omega)
  omega

theorem int_beq_self (a : Int) : (a == a) = true := by simp
theorem append_list (a b : ByteArray) : (a ++ b).data.toList = a.data.toList ++ b.data.toList := by rw [ByteArray.data_append, Array.toList_append]
def noByte : Value → Nat
  | .string s => if s.size = 0 then 1 else 0
  | _ => 0

theorem number_t (s : ByteArray) (hs : s.size ≤ maxLen) (h : numB s.data.toList = true) (w : World) : Calls Try.prog 11 #[.string s] w fun e w' => e = .returned (.tuple #[.int .i64 (numVal s.data.toList), .bool true]) ∧ w = w' := by
  have := number_any s hs w
  unfold NumPost numV at this
  rwa [h] at this
theorem number_f (s : ByteArray) (hs : s.size ≤ maxLen) (h : numB s.data.toList = false) (w : World) : Calls Try.prog 11 #[.string s] w fun e w' => e = .returned (.tuple #[.int .i64 0, .bool false]) ∧ w = w' := by
  have := number_any s hs w
  unfold NumPost numV at this
  rwa [h] at this

set_option maxRecDepth 100000 in
set_option maxHeartbeats 2000000 in
theorem textNumbers_out (n : Int) (s : ByteArray) (h : n < 0 ∨ 999999999 < n ∨ 50 < s.size) (w : World) : Calls Try.prog 8 #[.int .i64 n, .string s] w fun e w' => e = .returned (.bool true) ∧ Below w.heap.size w w' := by
  have tests : decide (n < 0) = true ∨ (decide (n < 0) = false ∧ decide (999999999 < n) = true) ∨ (decide (n < 0) = false ∧ decide (999999999 < n) = false ∧ decide (50 < (s.size : Int)) = true) := by
    simp only [decide_eq_true_eq, decide_eq_false_iff_not]; omega
  clear h
  rcases tests with h1 | ⟨h1, h2⟩ | ⟨h1, h2, h3⟩
  all_goals
    go_enter Try.func8, Try.ntmps8
    go_wp2_with fail
    refine (shown_any w).mono ?_
    rintro e w1 ⟨rfl, hb1⟩
    go_wp2_with fail
    go_ret
    exact ⟨rfl, hb1⟩

set_option maxRecDepth 100000 in
set_option maxHeartbeats 2000000 in
theorem textNumbers_in (n : Nat) (hn : n ≤ 999999999) (s : ByteArray) (hs : s.size ≤ 50) (w : World) : Calls Try.prog 8 #[.int .i64 n, .string s] w fun e w' => e = .returned (.bool true) ∧ Below w.heap.size w w' := by
  have h1 : decide ((n : Int) < 0) = false := by simp
  have h2 : decide (999999999 < (n : Int)) = false := by simp; omega
  have h3 : decide (50 < (s.size : Int)) = false := by simp; omega
  go_enter Try.func8, Try.ntmps8
  go_wp2_with fail
  refine (shown_any w).mono ?_
  rintro e w1 ⟨rfl, hb1⟩
  go_wp2_with fail
  go_loop [6, 7] (fun t i => ∃ (k : Nat) (d : List UInt8), i = .int .i64 k ∧ t = .string (txt d) ∧ DecAt n k d ∧ k ≤ 999999999) (fun t i => 2 * (intOf i).toNat + noByte t)
  case atStart => exact ⟨n, [], rfl, rfl, dec_start n hn, hn⟩
  case round =>
    obtain ⟨k, d, rfl, rfl, hat, hk⟩ := hrel
    have HA := Lib.hid hat; clear hat
    by_cases hpos : 0 < k
    · have e1 : decide (0 < (k : Int)) = true := by simp; omega
      have hcat : ¬ 9223372036854775807 < min (k % 10 + 1) 10 - k % 10 + d.length := by have := HA.out.len; omega
      have HN := Lib.hid (dec_step HA.out (.inl hpos))
      go_wp2
      go_round
      case rel => exact ⟨k / 10, _, by go_num, by rw [dig_extract _ (Nat.mod_lt _ (by omega)), txt_append]; rfl, HN.out, by omega⟩
      case measure =>
        rw [dig_extract _ (Nat.mod_lt _ (by omega)), txt_append]
        simp [intOf, noByte]
        omega
    · obtain rfl : k = 0 := by omega
      by_cases hd : d = []
      · have e1 : (txt d).toList = [] := by rw [txt_toL]; exact hd
        have HN := Lib.hid (dec_step HA.out (.inr hd))
        have HD := Lib.hid hd
        clear hd
        have hcat : ¬ 9223372036854775807 < 1 + d.length := by rw [HD.out]; simp
        go_wp2
        go_round
        case rel => exact ⟨0, _, rfl, by rw [dig_extract 0 (by omega), txt_append]; rfl, HN.out, by omega⟩
        case measure =>
          rw [dig_extract 0 (by omega), txt_append, HD.out]
          simp [intOf, noByte]
      · have e1 : (txt d).toList.isEmpty = false := by rw [txt_toL]; simpa using hd
        have e1' : (txt d).toList ≠ [] := by rw [txt_toL]; exact hd
        have hlen := HA.out.len
        have hm1 : (txt d).size ≤ maxLen := by unfold maxLen; rw [txt_size]; omega
        have hy := dec_yes HA.out hd
        have hz := dec_zero HA.out hd
        have hv := dec_val HA.out
        have hmore := dec_more HA.out s.data.toList
        have HY := Lib.hid hy
        have HZ := Lib.hid hz
        have HV := Lib.hid hv
        have HM := Lib.hid hmore
        clear hy hz hv hmore hd
        have hcat1 : ¬ 9223372036854775807 < 1 + d.length := by omega
        have hcat2 : ¬ 9223372036854775807 < d.length + s.size := by omega
        go_wp2_with fail
        refine (number_t (txt d) hm1 (by rw [txt_data]; exact HY.out) w1).mono ?_
        rintro e w2 ⟨rfl, rfl⟩
        rw [txt_data, HV.out]
        go_wp2_with fail
        have hm2 : (ByteArray.mk #[48] ++ txt d).size ≤ maxLen := by rw [ByteArray.size_append, txt_size]; unfold maxLen; show 1 + d.length ≤ _; omega
        refine (number_f (ByteArray.mk #[48] ++ txt d) hm2 (by rw [append_list]; rw [txt_data]; exact HZ.out) w1).mono ?_
        rintro e w2 ⟨rfl, rfl⟩
        clear hm2
        go_wp2_with fail
        have hm3 : (txt d ++ s).size ≤ maxLen := by rw [ByteArray.size_append, txt_size]; unfold maxLen; omega
        have hap : (txt d ++ s).data.toList = d ++ s.data.toList := by rw [append_list, txt_data]
        have hself := int_beq_self (n : Int)
        cases hb : numB (d ++ s.data.toList) with
        | false =>
          have HB := Lib.hid hb
          have HP := Lib.hid hap
          clear hb hap
          refine (number_f (txt d ++ s) hm3 (by rw [HP.out]; exact HB.out) w1).mono ?_
          rintro e w2 ⟨rfl, rfl⟩
          clear hm3
          go_wp2_with fail
          go_ret
          exact ⟨rfl, hb1⟩
        | true =>
          have hge : decide ((n : Int) ≤ numVal (d ++ s.data.toList)) = true := by simpa using HM.out hb
          have HB := Lib.hid hb
          have HP := Lib.hid hap
          clear hb hap
          have hc := number_t (txt d ++ s) hm3 (by rw [HP.out]; exact HB.out) w1
          rw [HP.out] at hc
          generalize numVal (d ++ s.data.toList) = v at hc hge
          refine hc.mono ?_
          rintro e w2 ⟨rfl, rfl⟩
          clear hm3 hc
          go_wp2_with fail
          go_ret
          exact ⟨rfl, hb1⟩

theorem textNumbers_walk (n : Int) (_hn : (Lit.int .i64 n).wf = true) (s : ByteArray) (_hs : s.size ≤ maxLen) (w : World) : Calls Try.prog 8 #[.int .i64 n, .string s] w fun e w' => e = .returned (.bool true) ∧ Below w.heap.size w w' := by
  by_cases h : n < 0 ∨ 999999999 < n ∨ 50 < s.size
  · exact textNumbers_out n s h w
  · obtain ⟨k, rfl⟩ : ∃ k : Nat, n = k := ⟨n.toNat, by omega⟩
    exact textNumbers_in k (by omega) s (by omega) w

set_option maxRecDepth 100000 in
theorem textNumbers_lifted (os : Os) (started : os.Started) (H : Type) (enc : TypeId × Value → H) :
    ReturnsInHanded {} Try.checked os 8 .any (Rows.textNumbersSpec.pre6 enc Try.prog Try.f8 Rows.textNumbersRow.domain false) (Rows.textNumbersSpec.post enc Try.prog Try.f8 false true false false) := by
  refine returnsInHanded_of_change (C := Try.checked) own_knob started (by kernel_rfl) Try.func8
    (ChangeSpec.witness6 (enc := enc) (C := Try.checked) false ⟨#[], #[.int .i64 0, .string ⟨#[]⟩], []⟩ 8 (by kernel_rfl) (by kernel_rfl) (by kernel_rfl) (by kernel_rfl)) ?_
  intro W base args ds gs before hval0 hW _ _
  have hval : ∀ (j : Nat) t v, Try.f8.params[j]? = some t → args[j]? = some v → Value.okWide Try.prog W .any base t v := hval0
  have hW' := hW
  obtain ⟨p, q, hA0, hV, rfl, hfz, hnd⟩ := hW
  have hA : DataW.TrodAll enc Try.prog W 0 (fun _ => true) true Try.f8.params.toList args.toList ds p := hA0
  rw [Try.params8] at hA hval
  obtain ⟨v0, v1, d0, d1, p0, p1, rfl, rfl, rfl, h0, h1⟩ := trodAll_two hA
  obtain ⟨s0, rfl, rfl, rfl, ws0⟩ := open_int Try.underlying3 (hval 0 3 v0 rfl rfl) h0
  obtain ⟨s1, rfl, rfl, rfl, ws1⟩ := Go.ChangeMaps.open_string Try.underlying9 (hval 1 9 v1 rfl rfl) h1
  obtain ⟨rfl, rfl⟩ := trodVars_none hV
  clear hA0 hval0
  simp only [List.append_nil] at hW'
  refine (textNumbers_walk s0 ws0 s1 ws1 W).mono fun e W' h => ⟨.bool true, h.1, ?_⟩
  exact post_true hW' rfl (by kernel_rfl) Try.underlying4 rfl (fun sp _ => trodAll_mk2 (shut_int Try.underlying3 ws0) (Go.ChangeMaps.shut_string Try.underlying9 ws1)) h.2

theorem textNumbers_holds : Rows.TextNumbersSaid :=
  OpenClaim.holds_of_wide 8 Try.f8 rfl rfl rfl rfl rfl rfl rfl ⟨rfl, rfl, rfl, rfl, rfl⟩ rfl rfl rfl rfl rfl (by kernel_rfl) Try.func8 (by kernel_rfl)
    (of_decide_eq_true (by kernel_rfl)) (by unfold Func.isWrapper; first | (rw [if_pos (by decide +kernel)]; kernel_rfl) | (rw [if_neg (by decide +kernel)]; exact ⟨rfl, rfl⟩))
    (fun os started H enc _ => textNumbers_lifted os started H enc)

end Go.Proofs.Ytebamellddoaeaa
