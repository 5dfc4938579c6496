/-
  What wordlist of package call answers. For texts of at most a million bytes. No condition.
-/
import Derived.Test.YtbngoodjgijmgaaGreatDoorNLst
import Derived.Test.YtbngoodjgijmgaaGreatDoorHRf
namespace Go.Proofs.YtbngoodjgijmgaaGreatDoor
open Go.RowKit Go.Shelf

theorem numV_bd (l : BT) : 0 ≤ numV l ∧ numV l ≤ 1000000000 := by
  unfold numV
  split
  · next h =>
    have h2 := h
    unfold numB at h
    simp only [Bool.and_eq_true, decide_eq_true_eq] at h
    obtain ⟨⟨⟨_, h9⟩, _⟩, hd⟩ := h
    have := numVal_bd l hd
    have hp : (10 : Int) ^ l.length ≤ 1000000000 := by
      have hc : l.length = 0 ∨ l.length = 1 ∨ l.length = 2 ∨ l.length = 3 ∨ l.length = 4 ∨ l.length = 5 ∨ l.length = 6 ∨ l.length = 7 ∨ l.length = 8 ∨ l.length = 9 := by omega
      rcases hc with h | h | h | h | h | h | h | h | h | h <;> rw [h] <;> decide
    omega
  · omega
theorem some_part (l : List BT) (A Bn : Nat) : someN A Bn l = (l.take (min Bn l.length)).drop (min (A - 1) (min Bn l.length)) := by
  unfold someN
  have e1 : l.take (min Bn l.length) = l.take Bn := by
    by_cases h : Bn ≤ l.length
    · rw [Nat.min_eq_left h]
    · rw [Nat.min_eq_right (by omega), List.take_length, List.take_of_length_le (by omega)]
  rw [e1]
  by_cases h : A - 1 ≤ min Bn l.length
  · rw [Nat.min_eq_left h]
  · rw [Nat.min_eq_right (by omega), List.drop_eq_nil_of_le (by rw [List.length_take]; omega), List.drop_eq_nil_of_le (by rw [List.length_take]; exact Nat.le_refl _)]

set_option maxRecDepth 100000 in
set_option maxHeartbeats 4000000 in
theorem wordlist_any (a b t : ByteArray) (ha : a.size ≤ 1000000) (hb : b.size ≤ 1000000) (ht : t.size ≤ 1000000) (w : World) :
    Calls Tryz.prog 101 #[.string a, .string b, .string t] w fun e w' => e = .returned (.tuple #[.string (txt (finT (wordT a.data.toList b.data.toList t.data.toList)).1), .int .i64 (finT (wordT a.data.toList b.data.toList t.data.toList)).2]) ∧ Below w.heap.size w w' := by
  have hTa := fun W => trim_any a (by unfold maxLen; omega) W
  have hTb := fun W => trim_any b (by unfold maxLen; omega) W
  have hla := trim_len a.data.toList
  have hlb := trim_len b.data.toList
  rw [size_list] at hla hlb
  have hba := numV_bd (trimOf a.data.toList)
  have hbb := numV_bd (trimOf b.data.toList)
  have hF : wordT a.data.toList b.data.toList t.data.toList = if numB (trimOf a.data.toList) = true ∧ numB (trimOf b.data.toList) = true ∧ 1 ≤ numV (trimOf a.data.toList) then some (joinT (someN (numV (trimOf a.data.toList)).toNat (numV (trimOf b.data.toList)).toNat (wordsT t.data.toList))) else none := rfl
  generalize wordT a.data.toList b.data.toList t.data.toList = F at hF ⊢
  generalize trimOf a.data.toList = ta at *
  generalize trimOf b.data.toList = tb at *
  have HTa := Lib.hid hTa
  have HTb := Lib.hid hTb
  have HNa : Hid (∀ W, Calls Tryz.prog 128 #[.string (txt ta)] W fun e w' => e = .returned (.tuple #[.int .i64 (numV ta), .bool (numB ta)]) ∧ W = w') := fun W => by
    have := number_any (txt ta) (by rw [txt_size]; unfold maxLen; omega) W
    unfold NumPost at this
    rw [txt_data] at this
    exact this
  have HNb : Hid (∀ W, Calls Tryz.prog 128 #[.string (txt tb)] W fun e w' => e = .returned (.tuple #[.int .i64 (numV tb), .bool (numB tb)]) ∧ W = w') := fun W => by
    have := number_any (txt tb) (by rw [txt_size]; unfold maxLen; omega) W
    unfold NumPost at this
    rw [txt_data] at this
    exact this
  clear hTa hTb hla hlb
  generalize numV ta = va at *
  generalize numV tb = vb at *
  generalize numB ta = pa at *
  generalize numB tb = pb at *
  have HW := Lib.hid (words_own t (by omega))
  have HT : Hid (∀ x ∈ wordsT t.data.toList, x.length ≤ 10000000) := fun x hx => by
    have := (words_memT hx).2
    rw [size_list] at this
    omega
  have hwl := words_few t.data.toList
  rw [size_list] at hwl
  obtain ⟨A, rfl⟩ : ∃ A : Nat, va = (A : Int) := ⟨va.toNat, by omega⟩
  obtain ⟨Bn, rfl⟩ : ∃ Bn : Nat, vb = (Bn : Int) := ⟨vb.toNat, by omega⟩
  rw [Int.toNat_natCast, Int.toNat_natCast] at hF
  generalize wordsT t.data.toList = ws at *
  have bad : ∀ W, Below w.heap.size w W → ¬ (pa = true ∧ pb = true ∧ 1 ≤ (A : Int)) → Hid ((Ending.returned (.tuple #[.string ⟨#[]⟩, .int .i64 1])) = .returned (.tuple #[.string (txt (finT F).1), .int .i64 (finT F).2]) ∧ Below w.heap.size w W) := fun W hB hn => by
    rw [hF, if_neg hn]
    exact ⟨rfl, hB⟩
  have HF := Lib.hid hF
  clear hF
  go_enter Tryz.func101, Tryz.ntmps101
  go_wp2_with fail
  refine (HTa.out w).mono ?_
  rintro e w1 ⟨rfl, hb1⟩
  go_wp2_with fail
  refine (HNa.out w1).mono ?_
  rintro e _ ⟨rfl, rfl⟩
  go_wp2_with fail
  refine (HTb.out w1).mono ?_
  rintro e w2 ⟨rfl, hb2⟩
  go_wp2_with fail
  refine (HNb.out w2).mono ?_
  rintro e _ ⟨rfl, rfl⟩
  have hB2 : Below w.heap.size w w2 := hb1.trans (hb2.mono hb1.size)
  cases pa with
  | false =>
    have hbad := bad w2 hB2 (by simp)
    clear bad
    go_wp2_with fail
    go_ret2
    exact hbad.out
  | true =>
  cases pb with
  | false =>
    have hbad := bad w2 hB2 (by simp)
    clear bad
    go_wp2_with fail
    go_ret2
    exact hbad.out
  | true =>
  by_cases hA0 : A = 0
  · have hbad := bad w2 hB2 (by omega)
    subst hA0
    clear bad
    go_wp2_with fail
    go_ret2
    exact hbad.out
  have hFv : Hid (F = some (joinT (someN A Bn ws))) := by
    show _ = _
    rw [HF.out, if_pos ⟨rfl, rfl, by omega⟩]
  have hA1 : ((A : Int) == 0) = false := by rw [beq_eq_false_iff_ne]; omega
  clear bad HF
  go_wp2_with fail
  refine (HW.out w2).mono ?_
  rintro e w3 ⟨v1, rfl, hown, hb3⟩
  have hrd := owns_reads hown
  obtain ⟨o1, n1, c1, rfl, hn1⟩ : ∃ o1 n1 c1, v1 = .slice o1 n1 c1 ∧ n1 = ws.length := by
    obtain ⟨o', c', hv, _⟩ := hrd
    exact ⟨o', _, c', hv, by rw [List.length_map]⟩
  have hcap := owns_cap hown
  have hn1b : n1 ≤ 1000001 := by omega
  obtain ⟨ee, hE, hee⟩ : ∃ ee : Nat, min (Bn : Int) (n1 : Int) = (ee : Int) ∧ ee = min Bn n1 := ⟨min Bn n1, by omega, rfl⟩
  obtain ⟨ss, hS, hss⟩ : ∃ ss : Nat, min ((A : Int) - 1) (ee : Int) = (ss : Int) ∧ ss = min (A - 1) ee := ⟨min (A - 1) ee, by omega, rfl⟩
  have hse : ss ≤ ee := by omega
  have hen : ee ≤ n1 := by omega
  have hB3 : Below w.heap.size w w3 := hB2.trans (hb3.mono hB2.size)
  have hz3 := hB3.size
  have hsome : someN A Bn ws = (ws.take ee).drop ss := by
    rw [some_part, hss, hee, hn1]
  have HV : Hid (F = some (joinT ((ws.take ee).drop ss))) := by
    show _ = _
    rw [hFv.out, hsome]
  have HL : Hid (∀ x ∈ (ws.take ee).drop ss, x.length ≤ 10000000) := fun x hx => HT.out x (List.mem_of_mem_take (List.mem_of_mem_drop hx))
  have HE : Hid (ee = ss → (ws.take ee).drop ss = []) := fun h => List.drop_eq_nil_of_le (by rw [List.length_take]; omega)
  have hsc : ss ≤ c1 := by omega
  have hec : ee ≤ c1 := by omega
  have hrs := reads_part hrd ss ee hse hen
  clear hn1 hee hss hsome hown hrd hFv
  by_cases hlt : ss < ee
  · have hck : ¬ c1 = ss := by omega
    go_wp2_with fail
    refine (values_told _ _ _ _ (by omega) w3 hrs).mono ?_
    rintro e w4 ⟨l4, rfl, hT4, hb4⟩
    go_wp2_with fail
    refine (tog_told _ l4 _ HL.out w4 hT4).mono ?_
    rintro e w5 ⟨rfl, hb5⟩
    have hz4 := hb4.size
    have hB5 : Below w.heap.size w w5 := (hB3.trans (hb4.mono hz3)).trans (hb5.mono (by omega))
    go_wp2_with fail
    go_ret2
    exact ⟨by rw [HV.out]; rfl, hB5⟩
  · have hes : ee = ss := by omega
    have hnil := HE.out hes
    rw [hnil] at HV
    have hE0 : ∀ (o' : Option Addr) (c' : Nat), ReadsO w3 w3.heap.size (.slice o' 0 c') (([] : List BT).map txt) := fun o' c' => ⟨o', c', rfl, by simp⟩
    subst hes
    clear hnil hrs HE HL
    by_cases hck : c1 = ee
    · subst hck
      go_wp2_with fail
      refine (values_told _ _ _ _ (by omega) w3 (by first | exact hE0 _ _ | (rw [Nat.sub_self]; exact hE0 _ _))).mono ?_
      rintro e w4 ⟨l4, rfl, hT4, hb4⟩
      go_wp2_with fail
      refine (tog_told _ l4 _ (by simp) w4 hT4).mono ?_
      rintro e w5 ⟨rfl, hb5⟩
      have hz4 := hb4.size
      have hB5 : Below w.heap.size w w5 := (hB3.trans (hb4.mono hz3)).trans (hb5.mono (by omega))
      go_wp2_with fail
      go_ret2
      exact ⟨by rw [HV.out]; rfl, hB5⟩
    · go_wp2_with fail
      refine (values_told _ _ _ _ (by omega) w3 (by first | exact hE0 _ _ | (rw [Nat.sub_self]; exact hE0 _ _))).mono ?_
      rintro e w4 ⟨l4, rfl, hT4, hb4⟩
      go_wp2_with fail
      refine (tog_told _ l4 _ (by simp) w4 hT4).mono ?_
      rintro e w5 ⟨rfl, hb5⟩
      have hz4 := hb4.size
      have hB5 : Below w.heap.size w w5 := (hB3.trans (hb4.mono hz3)).trans (hb5.mono (by omega))
      go_wp2_with fail
      go_ret2
      exact ⟨by rw [HV.out]; rfl, hB5⟩
end Go.Proofs.YtbngoodjgijmgaaGreatDoor
