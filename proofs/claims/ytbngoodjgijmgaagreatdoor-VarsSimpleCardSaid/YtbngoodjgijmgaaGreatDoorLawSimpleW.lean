/-
  The walk over VarsSimple. No condition.
-/
import Derived.Test.YtbngoodjgijmgaaGreatDoorVKp
import Derived.Test.YtbngoodjgijmgaaGreatDoorVSm
import Derived.Test.YtbngoodjgijmgaaGreatDoorVAc
namespace Go.Proofs.YtbngoodjgijmgaaGreatDoor
open Go.RowKit Go.Shelf
attribute [local go_sem] Oper.semAt_some

theorem expand_later {Q : Nat → Prop} {o : Option Addr} {m c : Nat} {env : EnvT} {W : World} (hst : Std W) (h : EnvS W Q (.slice o m c) env) (hE : EnvOk env 20) (s : BT) (hs : s.length ≤ 1000000) :
    Hid (∀ W', Later W W' → Calls Tryz.prog 13 #[.agg #[.slice o m c], .string (txt s)] W' fun e w' => e = .returned (.tuple #[.string (txt (expandT env s).1), .int .i64 (expandT env s).2]) ∧ Later W' w') := fun W' hb =>
  expand_any _ o m c env s W' (hst.below hb) (h.below hb) hE hs
theorem assign_later {Q : Nat → Prop} {o : Option Addr} {m c : Nat} {env : EnvT} {W : World} (hst : Std W) (h : EnvS W Q (.slice o m c) env) (hE : EnvOk env 21) (n op s : BT) (hs : s.length ≤ 1000000) (hn : n.length ≤ maxLen) :
    Hid (∀ W', Later W W' → Calls Tryz.prog 18 #[.agg #[.slice o m c], .string (txt n), .string (txt op), .string (txt s)] W' (AssPost (assignT env n op s) W')) := fun W' hb =>
  assign_big o m c env n op s W' (hst.below hb) ((h.wider (fun _ _ _ => trivial)).below hb) hE hs hn
/-- An assignment that is right. -/
theorem assign_good {Q : Nat → Prop} {o : Option Addr} {m c : Nat} {env env' : EnvT} {W : World} (hst : Std W) (h : EnvS W Q (.slice o m c) env) (hE : EnvOk env 21) (n op s : BT) (hs : s.length ≤ 1000000) (hn : n.length ≤ maxLen) (hr : assignT env n op s = .ok env') :
    Hid (∀ W', Later W W' → Calls Tryz.prog 18 #[.agg #[.slice o m c], .string (txt n), .string (txt op), .string (txt s)] W' fun e w' => ∃ o' m' c', e = .returned (.tuple #[.agg #[.slice o' m' c'], .int .i64 0]) ∧ Later W' w' ∧ EnvS w' (fun _ => True) (.slice o' m' c') env') := fun W' hb => by
  refine ((assign_later hst h hE n op s hs hn).out W' hb).mono ?_
  rintro e w' ⟨o', m', c', j, rfl, hb2, ⟨h1, _⟩ | ⟨rfl, env2, h1, h2⟩⟩
  · rw [hr] at h1; cases h1
  · rw [hr] at h1; cases h1
    exact ⟨o', m', c', rfl, hb2, h2⟩
theorem envok_set {env : EnvT} {k : Nat} {x : VarT} (h : EnvOk env k) (hx : x.1.length ≤ 1000000 ∧ x.2.1.length ≤ 1000000) (hl : env.length + 1 + 10 * k ≤ 900000) : EnvOk (setT env x) k := by
  refine ⟨set_srt h.1, ?_, fun y hy => ?_⟩
  · have := (set_len env x).1; omega
  · rcases set_mem hy with rfl | hy
    · exact hx
    · exact h.2.2 y hy
theorem assign_ok {env env' : EnvT} {n op s : BT} (h : EnvOk env 21) (hl : env.length ≤ 100) (ht : ∀ y ∈ env, y.2.1.length ≤ 5000) (hs : s.length ≤ 600) (hr : assignT env n op s = .ok env') : EnvOk env' 20 := by
  have hn : nameB n = true := by
    cases hb : nameB n with
    | true => rfl
    | false => unfold assignT at hr; rw [if_pos hb] at hr; cases hr
  have hn40 := name_len hn
  have hm : ∀ y : VarT, (moreT env y s).1.length ≤ y.2.1.length + 4001 + 600 := fun y => by
    unfold moreT
    have := expand_len env s
    by_cases h1 : y.2.2 = true
    · rw [if_pos h1]
      by_cases h2 : (expandT env s).2 = 0
      · rw [if_pos h2]; simp; omega
      · rw [if_neg h2]; simp
    · rw [if_neg h1]; simp; omega
  have key : ∀ z : VarT, z.1.length ≤ 1000000 → z.2.1.length ≤ 1000000 → EnvOk (setT env z) 20 := fun z h1 h2 => envok_set h.less ⟨h1, h2⟩ (by omega)
  unfold assignT at hr
  split at hr
  · cases hr
  split at hr
  · split at hr
    · cases hr
      exact key (n, (expandT env s).1, true) (by show n.length ≤ _; omega) (by have := expand_len env s; show (expandT env s).1.length ≤ _; omega)
    · cases hr
  split at hr
  · cases hr
    exact key (n, s, false) (by show n.length ≤ _; omega) (by show s.length ≤ _; omega)
  split at hr
  · split at hr
    · cases hr
    · rename_i y hy
      split at hr
      · cases hr
        have h1 := ht y (get_mem hy)
        have h2 := hm y
        exact key (y.1, (moreT env y s).1, y.2.2) (by show y.1.length ≤ _; rw [get_name hy]; omega) (by show (moreT env y s).1.length ≤ _; omega)
      · cases hr
  split at hr
  · split at hr
    · cases hr
    · rename_i y hy
      cases hr
      exact key y (by rw [get_name hy]; omega) (by have := ht y (get_mem hy); omega)
  · cases hr
set_option maxRecDepth 100000 in
set_option maxHeartbeats 4000000 in
theorem varsSimple_walk (ao : Option Addr) (n ac : Nat) (l : EnvT) (hn : n = l.length) (hz : ∀ x ∈ l, x.1.length ≤ maxLen ∧ x.2.1.length ≤ maxLen) (s : ByteArray) (_hs : s.size ≤ maxLen) (a : BT × BT × BT) (ha1 : a.1.length ≤ maxLen) (_ha2 : a.2.1.length ≤ maxLen) (_ha3 : a.2.2.length ≤ maxLen) (w : World) (hst : Std w) (hI : InV w ao ac l) :
    Calls Tryz.prog 6 #[.slice ao n ac, .string s, .agg #[.string (txt a.1), .string (txt a.2.1), .string (txt a.2.2)]] w fun e w' => e = .returned (.bool true) ∧ Below w.heap.size w w' := by
  obtain ⟨a1, a2, a3⟩ := a
  dsimp only at ha1 _ha2 _ha3 ⊢
  obtain ⟨S, rfl⟩ : ∃ S, s = txt S := ⟨_, (txt_toList s).symm⟩
  have hb0 := Later.self w (.cells #[.string (txt a1), .string (txt a2), .string (txt a3)] 46)
  have K0 := (Keep.nil w).put (.cells #[.string (txt a1), .string (txt a2), .string (txt a3)] 46)
  have HSh : Hid (∀ W, Later w W → Calls Tryz.prog 11 #[] W fun e w' => e = .returned (.bool true) ∧ Later W w') := fun W hb => shown_any W (hst.below hb)
  have HR : Hid (∀ W, Later w W → Calls Tryz.prog 12 #[.slice ao n ac] W (RowsPost l W)) := fun W hb => rows_any ao n ac l W hn (hI.below hb (Nat.le_refl _)) hz
  have HSt : Hid (∀ W, Later w W → Std W) := fun W hb => hst.below hb
  have HB0 := Lib.hid hb0
  have HK0 := Lib.hid K0
  have z0 : (txt S).size = S.length := txt_size _
  have z1 : (txt a3).size = a3.length := txt_size _
  clear hn hz hI hst hb0 K0
  have hcases : (rowsOk l = false ∨ (rowsOk l = true ∧ (600 : Int) < (S.length : Int)) ∨ (rowsOk l = true ∧ ¬ (600 : Int) < (S.length : Int) ∧ (600 : Int) < (a3.length : Int)) ∨ (rowsOk l = true ∧ ¬ (600 : Int) < (S.length : Int) ∧ ¬ (600 : Int) < (a3.length : Int) ∧ ((txt a1).toList == [111, 119, 110]) = true) ∨
      (rowsOk l = true ∧ ¬ (600 : Int) < (S.length : Int) ∧ ¬ (600 : Int) < (a3.length : Int) ∧ ((txt a1).toList == [111, 119, 110]) = false ∧ ((txt a1).toList == [108, 97, 116, 101]) = true)) ∨
      (rowsOk l = true ∧ ¬ (600 : Int) < (S.length : Int) ∧ ¬ (600 : Int) < (a3.length : Int) ∧ ((txt a1).toList == [111, 119, 110]) = false ∧ ((txt a1).toList == [108, 97, 116, 101]) = false) := by
    cases rowsOk l with
    | false => exact .inl (.inl rfl)
    | true =>
      cases ((txt a1).toList == [111, 119, 110]) <;> cases ((txt a1).toList == [108, 97, 116, 101]) <;> by_cases h1 : (600 : Int) < (S.length : Int) <;> by_cases h2 : (600 : Int) < (a3.length : Int) <;> simp [h1, h2]
  rcases hcases with hbad | ⟨hok, d1, d2, d3, d4⟩
  · rcases hbad with hok | ⟨hok, d1⟩ | ⟨hok, d1, d2⟩ | ⟨hok, d1, d2, d3⟩ | ⟨hok, d1, d2, d3, d4⟩
    all_goals (
      have HO := Lib.hid hok
      clear hok
      go_enter Tryz.func6, Tryz.ntmps6
      go_wp2_with fail
      refine (HSh.out _ HB0.out).mono ?_
      rintro e w1 ⟨rfl, hb1⟩
      have HB1 := Lib.hid (HB0.out.on hb1)
      have HK1 := Lib.hid (HK0.out.on hb1)
      clear hb1 HSh HK0
      go_wp2_with fail
      refine (HR.out w1 HB1.out).mono ?_
      rintro e w2 ⟨o, m, c, o', m', c', rfl, hb2, hE2⟩
      rw [HO.out]
      have hb3 := (HB1.out.on hb2).put (.cells #[.slice o m c] 25)
      have HB3 := Lib.hid (hb3.put (.cells #[.slice o' m' c'] 28))
      have K3 := ((HK1.out.on hb2).put (.cells #[.slice o m c] 25)).put (.cells #[.slice o' m' c'] 28)
      obtain ⟨k0, k1, k2, _⟩ := three_cells K3.tail.tail.head
      clear hb2 hE2 HR hb3 K3 HK1
      go_wp2_with fail
      go_ret
      exact ⟨rfl, HB3.out⟩)
  · have HO := Lib.hid hok
    clear hok
    go_enter Tryz.func6, Tryz.ntmps6
    go_wp2_with fail
    refine (HSh.out _ HB0.out).mono ?_
    rintro e w1 ⟨rfl, hb1⟩
    have HB1 := Lib.hid (HB0.out.on hb1)
    have HK1 := Lib.hid (HK0.out.on hb1)
    clear hb1 HSh HK0
    go_wp2_with fail
    refine (HR.out w1 HB1.out).mono ?_
    rintro e w2 ⟨o, m, c, o', m', c', rfl, hb2, hE2⟩
    rw [HO.out]
    obtain ⟨hE3, _⟩ := hE2 HO.out
    obtain ⟨env, henv⟩ : ∃ env, env = rowsE l := ⟨_, rfl⟩
    have HEnvOk : Hid (EnvOk env 21 ∧ env.length ≤ 30 ∧ ∀ y ∈ env, y.2.1.length ≤ 600) := by
      have h3 := HO.out
      unfold rowsOk at h3
      rw [Bool.and_eq_true, List.all_eq_true] at h3
      have h4 := of_decide_eq_true h3.1
      have h5 := rows_len l
      rw [henv]
      refine ⟨rows_envok HO.out, by omega, fun y hy => ?_⟩
      have h6 := h3.2 y (rows_mem hy)
      unfold smallV at h6
      rw [Bool.and_eq_true] at h6
      exact of_decide_eq_true h6.2
    rw [← henv] at hE3
    have HSrt : Hid (SrtT env) := HEnvOk.out.1.1
    have hst2 := HSt.out w2 (HB1.out.on hb2)
    have HX := expand_later hst2 hE3 HEnvOk.out.1.less S (by omega)
    have HE3 := Lib.hid hE3
    have hb3 := (Later.on (Below.refl _ w2) (Later.self w2 (.cells #[.slice o m c] 25))).put (.cells #[.slice o' m' c'] 28)
    have HB3 := Lib.hid ((HB1.out.on hb2).on hb3)
    have K3 := ((HK1.out.on hb2).put (.cells #[.slice o m c] 25)).put (.cells #[.slice o' m' c'] 28)
    obtain ⟨k0, k1, k2, _⟩ := three_cells K3.tail.tail.head
    obtain ⟨v0, _⟩ := one_cell K3.tail.head
    have HC3 := Lib.hid hb3
    have HK3 := Lib.hid K3
    have HSt2 := Lib.hid hst2
    clear hb2 hE2 hE3 hb3 K3 HR HK1 HB1 henv hst2
    obtain ⟨P, hP⟩ : ∃ P, P = expandT env S := ⟨_, rfl⟩
    rw [← hP] at HX
    have HP := Lib.hid hP
    clear hP
    go_wp2_with fail
    refine (HX.out _ HC3.out).mono ?_
    rintro e w4 ⟨rfl, hb4⟩
    have HB4 := Lib.hid (HB3.out.on hb4)
    have HC4 := Lib.hid (HC3.out.on hb4)
    have HK4 := Lib.hid (HK3.out.on hb4)
    clear hb4 HX HK3 HB3 HC3 v0 k0 k1 k2
    by_cases hp2 : P.2 = 0
    · have z2 : (P.2 != 0) = false := by rw [hp2]; rfl
      have HP2 : Hid ((expandT env S).2 = 0) := by show _ = _; rw [← HP.out]; exact hp2
      have hPl : P.1.length ≤ 4000 := by rw [HP.out]; exact expand_len env S
      obtain ⟨v0, _⟩ := one_cell HK4.out.tail.head
      have hA1 := assign_good HSt2.out HE3.out HEnvOk.out.1 nOwn opNow S (by omega) (by decide) (own_ok env S HP2.out)
      have HA1 : Hid (∀ W, Later w2 W → Calls Tryz.prog 18 #[.agg #[.slice o m c], .string ⟨#[111, 119, 110]⟩, .string ⟨#[58, 61]⟩, .string (txt S)] W fun e w' => ∃ o' m' c', e = .returned (.tuple #[.agg #[.slice o' m' c'], .int .i64 0]) ∧ Later W w' ∧ EnvS w' (fun _ => True) (.slice o' m' c') (simX env S)) := hA1
      clear hp2 hA1
      go_wp2_with fail
      refine (HA1.out _ HC4.out).mono ?_
      rintro e w5 ⟨o5, m5, c5, rfl, hb5, hE5⟩
      have HokX : Hid (EnvOk (simX env S) 21) := envok_set HEnvOk.out.1 ⟨by show nOwn.length ≤ _; decide, by show (expandT env S).1.length ≤ _; rw [← HP.out]; omega⟩ (by have := HEnvOk.out.2.1; omega)
      have hA2 := assign_good (HSt.out w5 (HB4.out.on hb5)) hE5 HokX.out nLate opLate S (by omega) (by decide) (late_ok (simX env S) S)
      have HA2 : Hid (∀ W, Later w5 W → Calls Tryz.prog 18 #[.agg #[.slice o5 m5 c5], .string ⟨#[108, 97, 116, 101]⟩, .string ⟨#[61]⟩, .string (txt S)] W fun e w' => ∃ o' m' c', e = .returned (.tuple #[.agg #[.slice o' m' c'], .int .i64 0]) ∧ Later W w' ∧ EnvS w' (fun _ => True) (.slice o' m' c') (simY env S)) := hA2
      have HG5 := Lib.hid (fun W hb => get_any _ (.slice o5 m5 c5) (simX env S) (txt nOwn) W (hE5.below hb) (by have := HokX.out.2.1; omega) : ∀ W, Later w5 W → _)
      have HB6 := Lib.hid ((HB4.out.on hb5).put (.cells #[.slice o5 m5 c5] 25))
      have HD6 := Lib.hid (Later.self w5 (.cells #[.slice o5 m5 c5] 25))
      have K6 := (HK4.out.on hb5).put (.cells #[.slice o5 m5 c5] 25)
      obtain ⟨u0, _⟩ := one_cell K6.head
      have HK6 := Lib.hid K6
      clear hb5 hE5 hA2 K6 HA1 HK4 HC4 HB4 v0
      go_wp2_with fail
      refine (HA2.out _ HD6.out).mono ?_
      rintro e w7 ⟨o7, m7, c7, rfl, hb7, hE7⟩
      have HokY : Hid (EnvOk (simY env S) 21) := envok_set HokX.out ⟨by show nLate.length ≤ _; decide, by show S.length ≤ _; omega⟩ (by have := (set_len env (nOwn, (expandT env S).1, true)).1; have := HEnvOk.out.2.1; show (setT env (nOwn, (expandT env S).1, true)).length + 1 + _ ≤ _; omega)
      have HsmY : Hid ((simY env S).length ≤ 100 ∧ ∀ y ∈ simY env S, y.2.1.length ≤ 5000) := by
        refine ⟨?_, fun y hy => ?_⟩
        · have h1 := (set_len env (nOwn, (expandT env S).1, true)).1
          have h2 := (set_len (simX env S) (nLate, S, false)).1
          have h3 := HEnvOk.out.2.1
          show (setT (simX env S) (nLate, S, false)).length ≤ 100
          have h4 : (simX env S).length ≤ 31 := by show (setT env (nOwn, (expandT env S).1, true)).length ≤ 31; omega
          omega
        · rcases set_mem hy with rfl | hy
          · show S.length ≤ _; omega
          · rcases set_mem hy with rfl | hy
            · show (expandT env S).1.length ≤ _; rw [← HP.out]; omega
            · have := HEnvOk.out.2.2 y hy; omega
      have HA3 := assign_later (HSt.out w7 (HB6.out.on hb7)) hE7 HokY.out a1 a2 a3 (by omega) ha1
      have HB8 := Lib.hid ((HB6.out.on hb7).put (.cells #[.slice o7 m7 c7] 25))
      have HD8 := Lib.hid ((HD6.out.on hb7).put (.cells #[.slice o7 m7 c7] 25))
      have HF8 := Lib.hid (Later.self w7 (.cells #[.slice o7 m7 c7] 25))
      have K8 := (HK6.out.on hb7).put (.cells #[.slice o7 m7 c7] 25)
      obtain ⟨t0, _⟩ := one_cell K8.head
      obtain ⟨k0, k1, k2, _⟩ := three_cells K8.tail.tail.tail.tail.head
      have HK8 := Lib.hid K8
      clear hb7 hE7 K8 HA2 HK6 HB6 HD6 u0
      go_wp2_with fail
      refine (HA3.out _ HF8.out).mono ?_
      rintro e w9 ⟨o9, m9, c9, j, rfl, hb9, hr9⟩
      have HB10 := Lib.hid ((HB8.out.on hb9).put (.cells #[.slice o9 m9 c9] 25))
      have HD10 := Lib.hid ((HD8.out.on hb9).put (.cells #[.slice o9 m9 c9] 25))
      have HK10 := Lib.hid ((HK8.out.on hb9).put (.cells #[.slice o9 m9 c9] 25))
      have HStd9 := Lib.hid (HSt.out w9 (HB8.out.on hb9))
      clear hb9 HA3 HK8 HB8 HD8 HF8 t0 k0 k1 k2
      rcases hr9 with ⟨-, hj, -⟩ | ⟨rfl, envz, hrz, hE9⟩
      · have z3 : (j != 0) = true := by rw [bne_iff_ne]; exact hj
        clear hj
        go_wp2_with fail
        go_ret
        exact ⟨rfl, HB10.out⟩
      · have hnm1 : a1 ≠ nOwn := fun e => by rw [e, txt_toL] at d3; exact absurd d3 (by decide)
        have hnm2 : a1 ≠ nLate := fun e => by rw [e, txt_toL] at d4; exact absurd d4 (by decide)
        obtain ⟨hown, hlate⟩ := simple_end HSrt.out S a1 a2 a3 hnm1 hnm2 hrz
        have hokZ := assign_ok HokY.out HsmY.out.1 HsmY.out.2 (by omega) hrz
        have hx1 := expand_later HStd9.out hE9 hokZ [36, 40, 111, 119, 110, 41] (by decide)
        rw [hown, ← HP.out] at hx1
        have HX1 : Hid (∀ W, Later w9 W → Calls Tryz.prog 13 #[.agg #[.slice o9 m9 c9], .string ⟨#[36, 40, 111, 119, 110, 41]⟩] W fun e w' => e = .returned (.tuple #[.string (txt P.1), .int .i64 0]) ∧ Later W w') := hx1
        have HX2 := expand_later HStd9.out hE9 hokZ S (by omega)
        have hx3 := expand_later HStd9.out hE9 hokZ [36, 40, 108, 97, 116, 101, 41] (by decide)
        obtain ⟨D, hD⟩ : ∃ D, D = expandT envz S := ⟨_, rfl⟩
        obtain ⟨T, hT⟩ : ∃ T, T = expandT envz [36, 40, 108, 97, 116, 101, 41] := ⟨_, rfl⟩
        rw [← hD] at HX2
        rw [← hT] at hx3
        rw [← hD, ← hT] at hlate
        have HL := Lib.hid hlate
        have HX3 : Hid (∀ W, Later w9 W → Calls Tryz.prog 13 #[.agg #[.slice o9 m9 c9], .string ⟨#[36, 40, 108, 97, 116, 101, 41]⟩] W fun e w' => e = .returned (.tuple #[.string (txt T.1), .int .i64 T.2]) ∧ Later W w') := hx3
        have HG : Hid (∀ W, Later w5 W → Calls Tryz.prog 15 #[.agg #[.slice o5 m5 c5], .string ⟨#[111, 119, 110]⟩] W fun e w' => e = .returned (.tuple #[.agg #[.string (txt nOwn), .string (txt P.1), .bool true], .bool true]) ∧ Later W w') := fun W hb => by
          have := HG5.out W hb
          unfold GetPost at this
          rw [txt_data, simX_own HSrt.out S, ← HP.out] at this
          exact this
        have hf9 := Later.self w9 (.cells #[.slice o9 m9 c9] 25)
        have HF9 := Lib.hid hf9
        obtain ⟨t0, _⟩ := one_cell HK10.out.head
        clear hrz hE9 hown hlate hokZ hx1 hx3 hD hT hnm1 hnm2 HG5 HokX HokY HsmY HEnvOk HSrt HStd9 hf9 d3 d4
        go_wp2_with fail
        refine (HX1.out _ HF9.out).mono ?_
        rintro e w11 ⟨rfl, hb11⟩
        have HF11 := Lib.hid (HF9.out.on hb11)
        have HK11 := Lib.hid (HK10.out.on hb11)
        have HB11 := Lib.hid (HB10.out.on hb11)
        have HD11 := Lib.hid (HD10.out.on hb11)
        obtain ⟨t0, _⟩ := one_cell HK11.out.head
        clear hb11 HX1 HK10 HB10 HD10 HF9
        go_wp2_with fail
        refine (HX2.out _ HF11.out).mono ?_
        rintro e w12 ⟨rfl, hb12⟩
        have HF12 := Lib.hid (HF11.out.on hb12)
        have HK12 := Lib.hid (HK11.out.on hb12)
        have HB12 := Lib.hid (HB11.out.on hb12)
        have HD12 := Lib.hid (HD11.out.on hb12)
        obtain ⟨t0, _⟩ := one_cell HK12.out.head
        clear hb12 HX2 HK11 HB11 HD11 HF11
        go_wp2_with fail
        refine (HX3.out _ HF12.out).mono ?_
        rintro e w13 ⟨rfl, hb13⟩
        have HK13 := Lib.hid (HK12.out.on hb13)
        have HB13 := Lib.hid (HB12.out.on hb13)
        have HD13 := Lib.hid (HD12.out.on hb13)
        obtain ⟨t0, _⟩ := one_cell HK13.out.tail.tail.head
        clear hb13 HX3 HK12 HB12 HD12 HF12
        go_wp2_with fail
        refine (HG.out _ HD13.out).mono ?_
        rintro e w14 ⟨rfl, hb14⟩
        have HB14 := Lib.hid ((HB13.out.on hb14).put (.cells #[.string (txt nOwn), .string (txt P.1), .bool true] 36))
        have e1 : ((txt P.1).toList != (txt P.1).toList) = false := by simp
        have e2 : ((txt P.1).toList == (txt P.1).toList) = true := by simp
        clear hb14 HG HK13 HB13 HD13 t0
        by_cases ht : T.2 = 0
        · obtain ⟨h1, h2⟩ := HL.out ht
          have z5 : (T.2 != 0) = false := by rw [ht]; rfl
          have z6 : (D.2 == 0) = true := by rw [h1]; rfl
          have z7 : ((txt T.1).toList == (txt D.1).toList) = true := by rw [h2]; simp
          clear ht h1 h2 HL
          go_wp2_with fail
          go_ret
          exact ⟨rfl, HB14.out⟩
        · have z5 : (T.2 != 0) = true := by rw [bne_iff_ne]; exact ht
          clear ht HL
          go_wp2_with fail
          go_ret
          exact ⟨rfl, HB14.out⟩
    · have z2 : (P.2 != 0) = true := by rw [bne_iff_ne]; exact hp2
      clear hp2
      go_wp2_with fail
      go_ret
      exact ⟨rfl, HB4.out⟩
end Go.Proofs.YtbngoodjgijmgaaGreatDoor
