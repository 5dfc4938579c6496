/-
  TextSigns: a quoted word has plain bytes and percent signs alone, no more than three for each byte, and is the text if that is a path; two texts that are unlike are quoted unlike: for every two texts. No condition.
-/
import Derived.Test.YtebamellddoaeaaRow
import Derived.Test.YtebamellddoaeaaRefPath
namespace Go.Proofs.Ytebamellddoaeaa
open Go.ChangeShapes Go.WideShapes Go.ChangeAt Go.RowKit

theorem plain_cases {c : UInt8} (h : plainB c = true) : (65 ≤ c.toNat ∧ c.toNat ≤ 90) ∨ (97 ≤ c.toNat ∧ c.toNat ≤ 122) ∨ (48 ≤ c.toNat ∧ c.toNat ≤ 57) ∨ c.toNat = 95 ∨ c.toNat = 45 ∨ c.toNat = 46 ∨ c.toNat = 47 ∨ c.toNat = 43 := by
  simp only [plainB, letB, digB, Bool.or_eq_true, decide_eq_true_eq] at h
  omega
theorem hexOf_plain (i : Nat) (h : i < 16) : plainB (hexOf i) = true := by
  match i, h with
  | 0, _ => rfl
  | 1, _ => rfl
  | 2, _ => rfl
  | 3, _ => rfl
  | 4, _ => rfl
  | 5, _ => rfl
  | 6, _ => rfl
  | 7, _ => rfl
  | 8, _ => rfl
  | 9, _ => rfl
  | 10, _ => rfl
  | 11, _ => rfl
  | 12, _ => rfl
  | 13, _ => rfl
  | 14, _ => rfl
  | 15, _ => rfl
  | _ + 16, h => exact absurd h (by omega)
theorem hexOf_inj (i j : Nat) (hi : i < 16) (hj : j < 16) (h : hexOf i = hexOf j) : i = j := by
  have main : ∀ i : Fin 16, ∀ j : Fin 16, hexOf i.val = hexOf j.val → i = j := by decide
  have := main ⟨i, hi⟩ ⟨j, hj⟩ h
  exact congrArg Fin.val this
def signB (c : UInt8) : Bool := plainB c || decide (c.toNat = 37)
theorem quo_signs (c : UInt8) : ∀ x ∈ quo c, signB x = true := by
  have hlt := c.toNat_lt
  unfold quo
  split
  · intro x hx; simp at hx; subst hx; simp [signB, *]
  · intro x hx
    simp at hx
    rcases hx with rfl | rfl | rfl
    · rfl
    · simp [signB, hexOf_plain _ (show c.toNat / 16 < 16 by omega)]
    · simp [signB, hexOf_plain _ (show c.toNat % 16 < 16 by omega)]
theorem quote_signs (l : List UInt8) : ∀ x ∈ quoteOf l, signB x = true := by
  unfold quoteOf
  split
  · intro x hx; simp at hx; subst hx; rfl
  · intro x hx
    simp only [quoAll, List.mem_flatMap] at hx
    obtain ⟨c, _, hx⟩ := hx
    exact quo_signs c x hx
theorem quo_ge (c : UInt8) : 1 ≤ (quo c).length := by unfold quo; split <;> simp
theorem quoAll_ge (l : List UInt8) : l.length ≤ (quoAll l).length := by
  induction l with
  | nil => simp
  | cons c r ih =>
    have := quo_ge c
    simp only [quoAll, List.flatMap_cons, List.length_append, List.length_cons] at ih ⊢
    omega
theorem quote_len (l : List UInt8) : l.length ≤ (quoteOf l).length ∧ ((quoteOf l).length ≤ 1 ∨ (quoteOf l).length ≤ 3 * l.length) := by
  unfold quoteOf
  split
  · rename_i h; subst h; simp
  · exact ⟨quoAll_ge l, .inr (quoAll_len l)⟩
theorem quoAll_inj : ∀ a b : List UInt8, quoAll a = quoAll b → a = b
  | [], [], _ => rfl
  | [], c :: r, h => by
    have := congrArg List.length h
    have h2 := quo_ge c
    simp only [quoAll, List.flatMap_nil, List.flatMap_cons, List.length_append, List.length_nil] at this
    omega
  | c :: r, [], h => by
    have := congrArg List.length h
    have h2 := quo_ge c
    simp only [quoAll, List.flatMap_nil, List.flatMap_cons, List.length_append, List.length_nil] at this
    omega
  | c :: r, d :: t, h => by
    have hc := c.toNat_lt
    have hd := d.toNat_lt
    have e : quo c ++ quoAll r = quo d ++ quoAll t := by simpa [quoAll] using h
    have hp37 : plainB 37 = false := rfl
    cases pc : plainB c <;> cases pd : plainB d
    · simp only [quo, pc, pd, Bool.false_eq_true, if_false, List.cons_append, List.nil_append, List.cons.injEq, true_and] at e
      obtain ⟨e1, e2, e3⟩ := e
      have h1 := hexOf_inj _ _ (by omega) (by omega) e1
      have h2 := hexOf_inj _ _ (by omega) (by omega) e2
      have : c = d := UInt8.toNat_inj.1 (by omega)
      rw [this, quoAll_inj r t e3]
    · simp only [quo, pc, pd, Bool.false_eq_true, if_false, if_true, List.cons_append, List.nil_append, List.cons.injEq] at e
      rw [← e.1, hp37] at pd; cases pd
    · simp only [quo, pc, pd, Bool.false_eq_true, if_false, if_true, List.cons_append, List.nil_append, List.cons.injEq] at e
      rw [e.1, hp37] at pc; cases pc
    · simp only [quo, pc, pd, if_true, List.cons_append, List.nil_append, List.cons.injEq] at e
      rw [e.1, quoAll_inj r t e.2]
theorem quoAll_not37 (l : List UInt8) (h : l ≠ []) : quoAll l ≠ [37] := by
  cases l with
  | nil => exact absurd rfl h
  | cons c r =>
    intro e
    have e' : quo c ++ quoAll r = [37] := by simpa [quoAll] using e
    cases pc : plainB c
    · simp [quo, pc] at e'
    · simp only [quo, pc, if_true, List.cons_append, List.nil_append, List.cons.injEq] at e'
      have hp37 : plainB 37 = false := rfl
      rw [e'.1, hp37] at pc; cases pc
theorem quote_inj (a b : List UInt8) (h : quoteOf a = quoteOf b) : a = b := by
  unfold quoteOf at h
  split at h <;> split at h
  · rename_i h1 h2; rw [h1, h2]
  · rename_i h1 h2; exact absurd h.symm (quoAll_not37 b h2)
  · rename_i h1 h2; exact absurd h (quoAll_not37 a h1)
  · exact quoAll_inj a b h
theorem quoAll_plain (l : List UInt8) (h : allB plainB l = true) : quoAll l = l := by
  induction l with
  | nil => rfl
  | cons c r ih =>
    unfold allB at h ih
    rw [List.all_cons, Bool.and_eq_true] at h
    have := ih h.2
    simp only [quoAll, List.flatMap_cons] at this ⊢
    rw [this, quo, if_pos h.1]; rfl
theorem path_self (l : List UInt8) (h : pathB l = true) : quoteOf l = l := by
  rw [pathB_eq] at h
  simp only [Bool.and_eq_true] at h
  obtain ⟨⟨⟨_, h2⟩, h3⟩, _⟩ := h
  unfold quoteOf
  split
  · rename_i e; subst e; revert h3; decide
  · exact quoAll_plain l h2

theorem txt_mem (l : List UInt8) (k : Nat) (hk : k < (txt l).size) : (txt l)[k] ∈ l := by
  have h : k < (txt l).data.toList.length := by rw [Array.length_toList]; exact hk
  have e : (txt l).data.toList[k] = (txt l)[k] := by rw [Array.getElem_toList]; rfl
  have := List.getElem_mem h
  rw [e] at this
  rwa [txt_data] at this

set_option maxRecDepth 100000 in
set_option maxHeartbeats 2000000 in
theorem textSigns_out (s t : ByteArray) (h : 400 < s.size ∨ 400 < t.size) (w : World) : Calls Try.prog 9 #[.string s, .string t] w fun e w' => e = .returned (.bool true) ∧ Below w.heap.size w w' := by
  have tests : decide (400 < (s.size : Int)) = true ∨ (decide (400 < (s.size : Int)) = false ∧ decide (400 < (t.size : Int)) = true) := by
    simp only [decide_eq_true_eq, decide_eq_false_iff_not]; omega
  clear h
  rcases tests with h1 | ⟨h1, h2⟩
  all_goals
    go_enter Try.func9, Try.ntmps9
    go_wp2_with fail
    refine (shown_any w).mono ?_
    rintro e w1 ⟨rfl, hb1⟩
    go_wp2_with fail
    go_ret
    exact ⟨rfl, hb1⟩

set_option maxRecDepth 100000 in
set_option maxHeartbeats 4000000 in
theorem textSigns_in (s t : ByteArray) (hs : s.size ≤ 400) (ht : t.size ≤ 400) (w : World) : Calls Try.prog 9 #[.string s, .string t] w fun e w' => e = .returned (.bool true) ∧ Below w.heap.size w w' := by
  have hsl := size_list s
  have hm : s.size ≤ maxLen := by unfold maxLen; omega
  have h1 : decide (400 < (s.size : Int)) = false := by simp; omega
  have h2 : decide (400 < (t.size : Int)) = false := by simp; omega
  obtain ⟨hq1, hq2⟩ := quote_len s.data.toList
  have hsg := quote_signs s.data.toList
  rw [hsl] at hq1 hq2
  obtain ⟨q, hq⟩ : ∃ q, q = txt (quoteOf s.data.toList) := ⟨_, rfl⟩
  have hql : q.size = (quoteOf s.data.toList).length := by rw [hq, txt_size]
  rw [← hql] at hq1 hq2
  have HS : Hid (∀ (k : Nat) (hk : k < q.size), signB q[k] = true) := by
    show ∀ (k : Nat) (hk : k < q.size), signB q[k] = true
    intro k hk
    subst hq
    exact hsg _ (txt_mem _ k hk)
  have HQ := Lib.hid hq
  have hqs : q.size ≤ 1200 := by omega
  have hmax : (q.size : Int) ≤ max 1 (3 * (s.size : Int)) := by omega
  clear hql hsg hq hsl
  go_enter Try.func9, Try.ntmps9
  go_wp2_with fail
  refine (shown_any w).mono ?_
  rintro e w1 ⟨rfl, hb1⟩
  go_wp2_with fail
  have hc := quote_any s (by omega) w1
  rw [← HQ.out] at hc
  refine hc.mono ?_
  rintro e w2 ⟨rfl, hb2⟩
  clear hc
  go_wp2_with fail
  go_loop [7] (fun i => ∃ k : Nat, k ≤ q.size ∧ i = .int .i64 k) (fun i => q.size - (intOf i).toNat)
  case atStart => exact ⟨0, Nat.zero_le _, rfl⟩
  case round =>
    obtain ⟨k, hk, rfl⟩ := hrel
    by_cases hlt : k < q.size
    · have hc : (65 ≤ q[k].toNat ∧ q[k].toNat ≤ 90) ∨ (97 ≤ q[k].toNat ∧ q[k].toNat ≤ 122) ∨ (48 ≤ q[k].toNat ∧ q[k].toNat ≤ 57) ∨ (q[k].toNat = 95) ∨ (q[k].toNat = 45) ∨ (q[k].toNat = 46) ∨ (q[k].toNat = 47) ∨ (q[k].toNat = 43) ∨ (q[k].toNat = 37) := by
        have := HS.out k hlt
        simp only [signB, Bool.or_eq_true, decide_eq_true_eq] at this
        rcases this with h | h
        · have := plain_cases h; omega
        · omega
      rcases hc with hc | hc | hc | hc | hc | hc | hc | hc | hc
      · have f0 : decide (65 ≤ (q[k].toNat : Int)) = true := by simp; omega
        have f1 : decide ((q[k].toNat : Int) ≤ 90) = true := by simp; omega
        clear hc
        go_wp2_with fail
        go_round
        case rel => exact ⟨k + 1, by omega, by go_num⟩
        case measure => simp [intOf]; omega
      · have f0 : decide (65 ≤ (q[k].toNat : Int)) = true := by simp; omega
        have f1 : decide ((q[k].toNat : Int) ≤ 90) = false := by simp; omega
        have f2 : decide (97 ≤ (q[k].toNat : Int)) = true := by simp; omega
        have f3 : decide ((q[k].toNat : Int) ≤ 122) = true := by simp; omega
        clear hc
        go_wp2_with fail
        go_round
        case rel => exact ⟨k + 1, by omega, by go_num⟩
        case measure => simp [intOf]; omega
      · have f0 : decide (65 ≤ (q[k].toNat : Int)) = false := by simp; omega
        have f1 : decide (97 ≤ (q[k].toNat : Int)) = false := by simp; omega
        have f2 : decide (48 ≤ (q[k].toNat : Int)) = true := by simp; omega
        have f3 : decide ((q[k].toNat : Int) ≤ 57) = true := by simp; omega
        clear hc
        go_wp2_with fail
        go_round
        case rel => exact ⟨k + 1, by omega, by go_num⟩
        case measure => simp [intOf]; omega
      · have f0 : decide (65 ≤ (q[k].toNat : Int)) = true := by simp; omega
        have f1 : decide ((q[k].toNat : Int) ≤ 90) = false := by simp; omega
        have f2 : decide (97 ≤ (q[k].toNat : Int)) = false := by simp; omega
        have f3 : decide (48 ≤ (q[k].toNat : Int)) = true := by simp; omega
        have f4 : decide ((q[k].toNat : Int) ≤ 57) = false := by simp; omega
        have f5 : ((q[k].toNat : Int) == 95) = true := by simp; omega
        clear hc
        go_wp2_with fail
        go_round
        case rel => exact ⟨k + 1, by omega, by go_num⟩
        case measure => simp [intOf]; omega
      · have f0 : decide (65 ≤ (q[k].toNat : Int)) = false := by simp; omega
        have f1 : decide (97 ≤ (q[k].toNat : Int)) = false := by simp; omega
        have f2 : decide (48 ≤ (q[k].toNat : Int)) = false := by simp; omega
        have f3 : ((q[k].toNat : Int) == 95) = false := by simp; omega
        have f4 : ((q[k].toNat : Int) == 45) = true := by simp; omega
        clear hc
        go_wp2_with fail
        go_round
        case rel => exact ⟨k + 1, by omega, by go_num⟩
        case measure => simp [intOf]; omega
      · have f0 : decide (65 ≤ (q[k].toNat : Int)) = false := by simp; omega
        have f1 : decide (97 ≤ (q[k].toNat : Int)) = false := by simp; omega
        have f2 : decide (48 ≤ (q[k].toNat : Int)) = false := by simp; omega
        have f3 : ((q[k].toNat : Int) == 95) = false := by simp; omega
        have f4 : ((q[k].toNat : Int) == 45) = false := by simp; omega
        have f5 : ((q[k].toNat : Int) == 46) = true := by simp; omega
        clear hc
        go_wp2_with fail
        go_round
        case rel => exact ⟨k + 1, by omega, by go_num⟩
        case measure => simp [intOf]; omega
      · have f0 : decide (65 ≤ (q[k].toNat : Int)) = false := by simp; omega
        have f1 : decide (97 ≤ (q[k].toNat : Int)) = false := by simp; omega
        have f2 : decide (48 ≤ (q[k].toNat : Int)) = false := by simp; omega
        have f3 : ((q[k].toNat : Int) == 95) = false := by simp; omega
        have f4 : ((q[k].toNat : Int) == 45) = false := by simp; omega
        have f5 : ((q[k].toNat : Int) == 46) = false := by simp; omega
        have f6 : ((q[k].toNat : Int) == 47) = true := by simp; omega
        clear hc
        go_wp2_with fail
        go_round
        case rel => exact ⟨k + 1, by omega, by go_num⟩
        case measure => simp [intOf]; omega
      · have f0 : decide (65 ≤ (q[k].toNat : Int)) = false := by simp; omega
        have f1 : decide (97 ≤ (q[k].toNat : Int)) = false := by simp; omega
        have f2 : decide (48 ≤ (q[k].toNat : Int)) = false := by simp; omega
        have f3 : ((q[k].toNat : Int) == 95) = false := by simp; omega
        have f4 : ((q[k].toNat : Int) == 45) = false := by simp; omega
        have f5 : ((q[k].toNat : Int) == 46) = false := by simp; omega
        have f6 : ((q[k].toNat : Int) == 47) = false := by simp; omega
        have f7 : ((q[k].toNat : Int) == 43) = true := by simp; omega
        clear hc
        go_wp2_with fail
        go_round
        case rel => exact ⟨k + 1, by omega, by go_num⟩
        case measure => simp [intOf]; omega
      · have f0 : decide (65 ≤ (q[k].toNat : Int)) = false := by simp; omega
        have f1 : decide (97 ≤ (q[k].toNat : Int)) = false := by simp; omega
        have f2 : decide (48 ≤ (q[k].toNat : Int)) = false := by simp; omega
        have f3 : ((q[k].toNat : Int) == 95) = false := by simp; omega
        have f4 : ((q[k].toNat : Int) == 45) = false := by simp; omega
        have f5 : ((q[k].toNat : Int) == 46) = false := by simp; omega
        have f6 : ((q[k].toNat : Int) == 47) = false := by simp; omega
        have f7 : ((q[k].toNat : Int) == 43) = false := by simp; omega
        have f8 : ((q[k].toNat : Int) == 37) = true := by simp; omega
        clear hc
        go_wp2_with fail
        go_round
        case rel => exact ⟨k + 1, by omega, by go_num⟩
        case measure => simp [intOf]; omega
    · go_wp2_with fail
      have hc := quote_any t (by omega) w2
      obtain ⟨r, hr⟩ : ∃ r, r = txt (quoteOf t.data.toList) := ⟨_, rfl⟩
      rw [← hr] at hc
      refine hc.mono ?_
      rintro e w3 ⟨rfl, hb3⟩
      clear hc
      have hb23 := hb1.trans (hb2.mono hb1.size)
      have hb33 := hb23.trans (hb3.mono hb23.size)
      have hst : (q.toList == r.toList) = decide (s = t) ∧ (s.toList == t.toList) = decide (s = t) := by
        refine ⟨?_, str_eq s t⟩
        rw [str_eq]
        by_cases e : s = t
        · subst e; rw [hr, HQ.out]; simp
        · have : ¬ q = r := by
            rw [hr, HQ.out]
            intro h
            have := quote_inj _ _ (txt_inj h)
            exact e (by rw [← txt_toList s, ← txt_toList t, this])
          simp [e, this]
      obtain ⟨e1, e2⟩ := hst
      generalize decide (s = t) = b at e1 e2
      have HR := Lib.hid hr
      clear hr
      cases hp : pathB s.data.toList with
      | true =>
        have e3 : (q.toList == s.toList) = true := by
          rw [str_eq, HQ.out, path_self _ hp, txt_toList]; simp
        have HP := Lib.hid hp
        clear hp
        cases b
        all_goals
          go_wp2_with fail
          refine (path_t s hm HP.out w3).mono ?_
          rintro e w4 ⟨rfl, hb4⟩
          go_wp2_with fail
          go_ret
          exact ⟨rfl, hb33.trans (hb4.mono hb33.size)⟩
      | false =>
        have HP := Lib.hid hp
        clear hp
        cases b
        all_goals
          go_wp2_with fail
          refine (path_f s hm HP.out w3).mono ?_
          rintro e w4 ⟨rfl, hb4⟩
          go_wp2_with fail
          go_ret
          exact ⟨rfl, hb33.trans (hb4.mono hb33.size)⟩

theorem textSigns_walk (s : ByteArray) (_hs : s.size ≤ maxLen) (t : ByteArray) (_ht : t.size ≤ maxLen) (w : World) : Calls Try.prog 9 #[.string s, .string t] w fun e w' => e = .returned (.bool true) ∧ Below w.heap.size w w' := by
  by_cases h : 400 < s.size ∨ 400 < t.size
  · exact textSigns_out s t h w
  · exact textSigns_in s t (by omega) (by omega) w

set_option maxRecDepth 100000 in
theorem textSigns_lifted (os : Os) (started : os.Started) (H : Type) (enc : TypeId × Value → H) :
    ReturnsInHanded {} Try.checked os 9 .any (Rows.textSignsSpec.pre6 enc Try.prog Try.f9 Rows.textSignsRow.domain false) (Rows.textSignsSpec.post enc Try.prog Try.f9 false true false false) := by
  refine returnsInHanded_of_change (C := Try.checked) own_knob started (by kernel_rfl) Try.func9
    (ChangeSpec.witness6 (enc := enc) (C := Try.checked) false ⟨#[], #[.string ⟨#[]⟩, .string ⟨#[]⟩], []⟩ 8 (by kernel_rfl) (by kernel_rfl) (by kernel_rfl) (by kernel_rfl)) ?_
  intro W base args ds gs before hval0 hW _ _
  have hval : ∀ (j : Nat) t v, Try.f9.params[j]? = some t → args[j]? = some v → Value.okWide Try.prog W .any base t v := hval0
  have hW' := hW
  obtain ⟨p, q, hA0, hV, rfl, hfz, hnd⟩ := hW
  have hA : DataW.TrodAll enc Try.prog W 0 (fun _ => true) true Try.f9.params.toList args.toList ds p := hA0
  rw [Try.params9] at hA hval
  obtain ⟨v0, v1, d0, d1, p0, p1, rfl, rfl, rfl, h0, h1⟩ := trodAll_two hA
  obtain ⟨s0, rfl, rfl, rfl, ws0⟩ := Go.ChangeMaps.open_string Try.underlying9 (hval 0 9 v0 rfl rfl) h0
  obtain ⟨s1, rfl, rfl, rfl, ws1⟩ := Go.ChangeMaps.open_string Try.underlying9 (hval 1 9 v1 rfl rfl) h1
  obtain ⟨rfl, rfl⟩ := trodVars_none hV
  clear hA0 hval0
  simp only [List.append_nil] at hW'
  refine (textSigns_walk s0 ws0 s1 ws1 W).mono fun e W' h => ⟨.bool true, h.1, ?_⟩
  exact post_true hW' rfl (by kernel_rfl) Try.underlying4 rfl (fun sp _ => trodAll_mk2 (Go.ChangeMaps.shut_string Try.underlying9 ws0) (Go.ChangeMaps.shut_string Try.underlying9 ws1)) h.2

theorem textSigns_holds : Rows.TextSignsSaid :=
  OpenClaim.holds_of_wide 9 Try.f9 rfl rfl rfl rfl rfl rfl rfl ⟨rfl, rfl, rfl, rfl, rfl⟩ rfl rfl rfl rfl rfl (by kernel_rfl) Try.func9 (by kernel_rfl)
    (of_decide_eq_true (by kernel_rfl)) (by unfold Func.isWrapper; first | (rw [if_pos (by decide +kernel)]; kernel_rfl) | (rw [if_neg (by decide +kernel)]; exact ⟨rfl, rfl⟩))
    (fun os started H enc _ => textSigns_lifted os started H enc)

end Go.Proofs.Ytebamellddoaeaa
