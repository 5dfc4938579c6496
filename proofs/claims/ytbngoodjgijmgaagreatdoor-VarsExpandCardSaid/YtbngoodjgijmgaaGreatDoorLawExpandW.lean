/-
  The walk over VarsExpand. No condition.
-/
import Derived.Test.YtbngoodjgijmgaaGreatDoorZX
namespace Go.Proofs.YtbngoodjgijmgaaGreatDoor
open Go.RowKit Go.Shelf
attribute [local go_sem] Oper.semAt_some

/-- Two that read as the same variables. -/
theorem sameVars_any (Q Q' : Nat → Prop) (o o' : Option Addr) (m c m' c' : Nat) (l : EnvT) (w : World) (hl : l.length ≤ 1000) (h : EnvS w Q (.slice o m c) l) (h' : EnvS w Q' (.slice o' m' c') l) :
    Calls Tryz.prog 17 #[.agg #[.slice o m c], .agg #[.slice o' m' c']] w fun e w' => e = .returned (.bool true) ∧ Later w w' := by
  have hm := h.len
  have hm' := h'.len
  have hmm : m' = m := by rw [hm, hm']
  subst hmm
  have hb : Later w _ := below_two w (.cells #[.slice o m' c] 25) (.cells #[.slice o' m' c'] 28)
  have h1 := heap_first w (.cells #[.slice o m' c] 25) (.cells #[.slice o' m' c'] 28)
  have h2 := heap_second w (.cells #[.slice o m' c] 25) (.cells #[.slice o' m' c'] 28)
  have HE := Lib.hid h
  have HE' := Lib.hid h'
  have HM := Lib.hid hm
  have HB := Lib.hid hb
  have hm2 : m' ≤ 1000 := by omega
  clear h h' hm hm' hb
  go_enter Tryz.func17, Tryz.ntmps17
  go_wp2_with fail
  generalize (w.alloc (.cells #[.slice o m' c] 25)).alloc (.cells #[.slice o' m' c'] 28) = w1 at HB h1 h2 ⊢
  have H1 := Lib.hid h1
  have H2 := Lib.hid h2
  obtain ⟨q1, _⟩ := one_cell h1
  obtain ⟨q2, _⟩ := one_cell h2
  clear h1 h2
  go_wp2_with fail
  go_loopw [5] (fun iv wr => ∃ i : Nat, i ≤ m' ∧ iv = .int .i64 (i : Int) ∧ Hid (Later w1 wr)) (fun iv _ => m' - (intOf iv).toNat)
  case atStart => exact ⟨0, Nat.zero_le _, rfl, Below.refl _ _⟩
  case round =>
    obtain ⟨i, hi, rfl, HL⟩ := hrel
    obtain ⟨v0, _⟩ := one_cell ((HL.out.block _ (Array.getElem?_eq_some_iff.1 H1.out).1).trans H1.out)
    obtain ⟨v1, _⟩ := one_cell ((HL.out.block _ (Array.getElem?_eq_some_iff.1 H2.out).1).trans H2.out)
    by_cases hlt : i < m'
    · obtain ⟨y, hy⟩ : ∃ y, l[i]? = some y := ⟨_, List.getElem?_eq_getElem (by rw [← HM.out]; exact hlt)⟩
      obtain ⟨b, rfl, hbl, hbc, hcy⟩ := HE.out.var hy
      obtain ⟨b', rfl, hbl', hbc', hcy'⟩ := HE'.out.var hy
      obtain ⟨y0, y1, y2⟩ := hcy wr (HB.out.on HL.out)
      obtain ⟨z0, z1, z2⟩ := hcy' wr (HB.out.on HL.out)
      have hil : (i : Int) < (m' : Int) := by omega
      have hi0 : (0 : Int) ≤ (i : Int) := by omega
      have e1 : ((txt y.1).toList == (txt y.1).toList) = true := by simp
      have e2 : ((txt y.2.1).toList == (txt y.2.1).toList) = true := by simp
      have e3 : (y.2.2 != y.2.2) = false := by simp
      have e4 : (y.2.2 == y.2.2) = true := by simp
      clear hy hcy hcy' q1 q2
      go_wp2_with fail
      go_quiet (fail)
      have HN := Lib.hid (HL.out.on (show Later wr (wr.drewN nq) from below_drewN (Below.refl _ wr) nq))
      clear v0 v1 y0 y1 y2 z0 z1 z2
      generalize wr.drewN nq = w2 at HN ⊢
      go_wp2_with fail
      go_roundw
      case rel => exact ⟨i + 1, hlt, by go_num, HN⟩
      case measure => simp [intOf]; omega
    · have hil : ¬ (i : Int) < (m' : Int) := by omega
      clear q1 q2
      go_wp2_with fail
      go_ret
      exact ⟨rfl, HB.out.on HL.out⟩
set_option maxRecDepth 100000 in
set_option maxHeartbeats 4000000 in
theorem varsExpand_walk (ao : Option Addr) (n ac : Nat) (l : EnvT) (hn : n = l.length) (hz : ∀ x ∈ l, x.1.length ≤ maxLen ∧ x.2.1.length ≤ maxLen) (s : ByteArray) (_hs : s.size ≤ maxLen) (name : ByteArray) (_hnm : name.size ≤ maxLen) (w : World) (hst : Std w) (hI : InV w ao ac l) :
    Calls Tryz.prog 3 #[.slice ao n ac, .string s, .string name] w fun e w' => e = .returned (.bool true) ∧ Below w.heap.size w w' := by
  obtain ⟨S, rfl⟩ : ∃ S, s = txt S := ⟨_, (txt_toList s).symm⟩
  have HSh := Lib.hid (shown_any w hst)
  have HR : Hid (∀ W, Later w W → Calls Tryz.prog 12 #[.slice ao n ac] W (RowsPost l W)) := fun W hb => rows_any ao n ac l W hn (hI.below hb (Nat.le_refl _)) hz
  have HSt : Hid (∀ W, Later w W → Std W) := fun W hb => hst.below hb
  have z0 : (txt S).size = S.length := txt_size _
  clear hn hz hI hst
  have hcases : (rowsOk l = false ∨ (rowsOk l = true ∧ (800 : Int) < (S.length : Int)) ∨ (rowsOk l = true ∧ ¬ (800 : Int) < (S.length : Int) ∧ (100 : Int) < (name.size : Int))) ∨
      (rowsOk l = true ∧ ¬ (800 : Int) < (S.length : Int) ∧ ¬ (100 : Int) < (name.size : Int)) := by
    cases rowsOk l with
    | false => exact .inl (.inl rfl)
    | true => by_cases h1 : (800 : Int) < (S.length : Int) <;> by_cases h2 : (100 : Int) < (name.size : Int) <;> simp [h1, h2]
  rcases hcases with hbad | ⟨hok, d1, d2⟩
  · rcases hbad with hok | ⟨hok, d1⟩ | ⟨hok, d1, d2⟩
    all_goals (
      have HO := Lib.hid hok
      clear hok
      go_enter Tryz.func3, Tryz.ntmps3
      go_wp2_with fail
      refine HSh.out.mono ?_
      rintro e w1 ⟨rfl, hb1⟩
      have HB1 : Hid (Later w w1) := hb1
      clear hb1 HSh
      go_wp2_with fail
      refine (HR.out w1 HB1.out).mono ?_
      rintro e w2 ⟨o, m, c, o', m', c', rfl, hb2, hE2⟩
      rw [HO.out]
      have hb3 := (HB1.out.on hb2).put (.cells #[.slice o m c] 25)
      have HB3 := Lib.hid (hb3.put (.cells #[.slice o' m' c'] 28))
      clear hb2 hE2 HR hb3
      go_wp2_with fail
      go_ret
      exact ⟨rfl, HB3.out⟩)
  · have HO := Lib.hid hok
    clear hok
    go_enter Tryz.func3, Tryz.ntmps3
    go_wp2_with fail
    refine HSh.out.mono ?_
    rintro e w1 ⟨rfl, hb1⟩
    have HB1 : Hid (Later w w1) := hb1
    clear hb1 HSh
    go_wp2_with fail
    refine (HR.out w1 HB1.out).mono ?_
    rintro e w2 ⟨o, m, c, o', m', c', rfl, hb2, hE2⟩
    rw [HO.out]
    obtain ⟨hE3, hF3⟩ := hE2 HO.out
    obtain ⟨env, henv⟩ : ∃ env, env = rowsE l := ⟨_, rfl⟩
    have hEnv : EnvOk env 21 ∧ env.length ≤ 30 ∧ EnvR env 20 := by
      have h3 := HO.out
      unfold rowsOk at h3
      rw [Bool.and_eq_true, List.all_eq_true] at h3
      have h4 := of_decide_eq_true h3.1
      have h5 := rows_len l
      rw [henv]
      refine ⟨rows_envok HO.out, by omega, rows_srt l, by omega, fun y hy => ?_⟩
      have h6 := h3.2 y (rows_mem hy)
      unfold smallV at h6
      rw [Bool.and_eq_true] at h6
      have h7 := of_decide_eq_true h6.1
      have h8 := of_decide_eq_true h6.2
      omega
    rw [← henv] at hE3 hF3
    have hst2 := HSt.out w2 (HB1.out.on hb2)
    have HX : Hid (∀ W, Later w2 W → Calls Tryz.prog 13 #[.agg #[.slice o m c], .string (txt S)] W fun e w' => e = .returned (.tuple #[.string (txt (expandT env S).1), .int .i64 (expandT env S).2]) ∧ Later W w') := fun W hb => expand_any _ o m c env S W (hst2.below hb) (hE3.below hb) hEnv.1.less (by omega)
    have HY : Hid (∀ W, Later w2 W → Calls Tryz.prog 14 #[.agg #[.slice o' m' c'], .string (txt S)] W fun e w' => e = .returned (.tuple #[.string (txt (expandT env S).1), .int .i64 (expandT env S).2]) ∧ Later W w') := fun W hb => rexpand_any _ o' m' c' env S W (hF3.below hb) hEnv.2.2 (by omega)
    have HG : Hid (∀ W, Later w2 W → Calls Tryz.prog 15 #[.agg #[.slice o m c], .string name] W fun e w' => e = .returned (.tuple #[aggV ((getT env name.data.toList).getD ([], [], false)), .bool (getT env name.data.toList).isSome]) ∧ Later W w') := fun W hb => get_any _ (.slice o m c) env name W (hE3.below hb) (by omega)
    have HH : Hid (∀ W, Later w2 W → Calls Tryz.prog 16 #[.agg #[.slice o' m' c'], .string name] W fun e w' => e = .returned (.tuple #[aggV ((getT env name.data.toList).getD ([], [], false)), .bool (getT env name.data.toList).isSome]) ∧ Later W w') := fun W hb => rget_any _ o' m' c' env name W (hF3.below hb) (by omega)
    have HV : Hid (∀ W, Later w2 W → Calls Tryz.prog 17 #[.agg #[.slice o m c], .agg #[.slice o' m' c']] W fun e w' => e = .returned (.bool true) ∧ Later W w') := fun W hb => sameVars_any _ _ o o' m c m' c' env W (by omega) (hE3.below hb) (hF3.below hb)
    obtain ⟨P, hP⟩ : ∃ P, P = expandT env S := ⟨_, rfl⟩
    obtain ⟨y, hy⟩ : ∃ y : VarT, y = (getT env name.data.toList).getD ([], [], false) := ⟨_, rfl⟩
    obtain ⟨bb, hbb⟩ : ∃ bb : Bool, bb = (getT env name.data.toList).isSome := ⟨_, rfl⟩
    rw [← hP] at HX HY
    rw [← hy, ← hbb] at HG HH
    have HG2 : Hid (∀ W, Later w2 W → Calls Tryz.prog 15 #[.agg #[.slice o m c], .string name] W fun e w' => e = .returned (.tuple #[.agg #[.string (txt y.1), .string (txt y.2.1), .bool y.2.2], .bool bb]) ∧ Later W w') := HG
    have HH2 : Hid (∀ W, Later w2 W → Calls Tryz.prog 16 #[.agg #[.slice o' m' c'], .string name] W fun e w' => e = .returned (.tuple #[.agg #[.string (txt y.1), .string (txt y.2.1), .bool y.2.2], .bool bb]) ∧ Later W w') := HH
    have hb3 := (Later.on (Below.refl _ w2) (Later.self w2 (.cells #[.slice o m c] 25))).put (.cells #[.slice o' m' c'] 28)
    have HB3 := Lib.hid ((HB1.out.on hb2).on hb3)
    have K3 := ((Keep.nil w2).put (.cells #[.slice o m c] 25)).put (.cells #[.slice o' m' c'] 28)
    obtain ⟨v0, _⟩ := one_cell K3.tail.head
    have HC3 := Lib.hid hb3
    have HK3 := Lib.hid K3
    clear hb2 hE2 hE3 hF3 hb3 K3 HR HB1 henv hst2 hP hy hbb HG HH hEnv HSt
    go_wp2_with fail
    refine (HX.out _ HC3.out).mono ?_
    rintro e w4 ⟨rfl, hb4⟩
    have HB4 := Lib.hid (HB3.out.on hb4)
    have HC4 := Lib.hid (HC3.out.on hb4)
    have HK4 := Lib.hid (HK3.out.on hb4)
    obtain ⟨u4, _⟩ := one_cell HK4.out.head
    rw [World.size_alloc] at u4
    clear hb4 HX HK3 HB3 HC3 v0
    go_wp2_with fail
    refine (HY.out _ HC4.out).mono ?_
    rintro e w5 ⟨rfl, hb5⟩
    have HB5 := Lib.hid (HB4.out.on hb5)
    have HC5 := Lib.hid (HC4.out.on hb5)
    have HK5 := Lib.hid (HK4.out.on hb5)
    obtain ⟨v5, _⟩ := one_cell HK5.out.tail.head
    clear hb5 HY HK4 HB4 HC4 u4
    go_wp2_with fail
    refine (HG2.out _ HC5.out).mono ?_
    rintro e w6 ⟨rfl, hb6⟩
    have HB6 := Lib.hid ((HB5.out.on hb6).put (.cells #[.string (txt y.1), .string (txt y.2.1), .bool y.2.2] 36))
    have HC6 := Lib.hid ((HC5.out.on hb6).put (.cells #[.string (txt y.1), .string (txt y.2.1), .bool y.2.2] 36))
    have HK6 := Lib.hid ((HK5.out.on hb6).put (.cells #[.string (txt y.1), .string (txt y.2.1), .bool y.2.2] 36))
    obtain ⟨u6, _⟩ := one_cell HK6.out.tail.head
    rw [World.size_alloc] at u6
    clear hb6 HG2 HK5 HB5 HC5 v5
    go_wp2_with fail
    refine (HH2.out _ HC6.out).mono ?_
    rintro e w7 ⟨rfl, hb7⟩
    have HB7 := Lib.hid ((HB6.out.on hb7).put (.cells #[.string (txt y.1), .string (txt y.2.1), .bool y.2.2] 39))
    have HC7 := Lib.hid ((HC6.out.on hb7).put (.cells #[.string (txt y.1), .string (txt y.2.1), .bool y.2.2] 39))
    have HK7 := Lib.hid ((HK6.out.on hb7).put (.cells #[.string (txt y.1), .string (txt y.2.1), .bool y.2.2] 39))
    obtain ⟨u7, _⟩ := one_cell HK7.out.tail.tail.head
    rw [World.size_alloc] at u7
    obtain ⟨v7, _⟩ := one_cell HK7.out.tail.tail.tail.head
    have e1 : ((txt P.1).toList == (txt P.1).toList) = true := by simp
    have e2 : (P.2 == P.2) = true := by simp
    have e3 : ((txt y.1).toList == (txt y.1).toList) = true := by simp
    have e4 : ((txt y.2.1).toList == (txt y.2.1).toList) = true := by simp
    clear hb7 HH2 HK6 HB6 HC6 u6
    go_wp2_with fail
    refine (HV.out _ HC7.out).mono ?_
    rintro e w8 ⟨rfl, hb8⟩
    have HB8 := Lib.hid (HB7.out.on hb8)
    have HK8 := Lib.hid (HK7.out.on hb8)
    obtain ⟨r0, r1, r2, _⟩ := three_cells HK8.out.head
    obtain ⟨p0, p1, p2, _⟩ := three_cells HK8.out.tail.head
    clear hb8 HV HK7 HB7 HC7 u7 v7
    go_wp2_with fail
    go_ret
    exact ⟨rfl, HB8.out⟩
end Go.Proofs.YtbngoodjgijmgaaGreatDoor
