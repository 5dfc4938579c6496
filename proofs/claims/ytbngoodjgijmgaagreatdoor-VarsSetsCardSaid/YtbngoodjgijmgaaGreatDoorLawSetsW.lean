/-
  The walk over VarsSets. No condition.
-/
import Derived.Laws.Cover1
import Derived.Laws.StructEq
import Derived.Test.YtbngoodjgijmgaaGreatDoorVKp
namespace Go.Proofs.YtbngoodjgijmgaaGreatDoor
open Go.RowKit Go.Shelf
attribute [local go_sem] Oper.semAt_some

theorem set_size : ∀ (l : EnvT) (x : VarT), SrtT l → (setT l x).length = if (getT l x.1).isSome = true then l.length else l.length + 1
  | [], x, _ => rfl
  | y :: r, x, hs => by
    have h1 := (List.pairwise_cons.1 hs).1
    have h2 : SrtT r := (List.pairwise_cons.1 hs).2
    rw [set_cons]
    have hg : getT (y :: r) x.1 = if y.1 = x.1 then some y else getT r x.1 := by
      unfold getT
      rw [List.find?_cons]
      by_cases h : y.1 = x.1
      · rw [if_pos h, decide_eq_true h]
      · rw [if_neg h, decide_eq_false h]
    rw [hg]
    by_cases h : y.1 = x.1
    · rw [if_pos h, if_pos h]; rfl
    rw [if_neg h, if_neg h]
    by_cases hl : x.1 < y.1
    · have hn : getT r x.1 = none := by
        unfold getT
        rw [List.find?_eq_none]
        intro z hz
        have h3 : y.1 < z.1 := h1 z hz
        have h4 : x.1 < z.1 := List.lt_trans hl h3
        simpa using fun e : z.1 = x.1 => absurd (e ▸ h4) (List.lt_irrefl _)
      rw [if_pos hl, hn]; rfl
    · rw [if_neg hl, List.length_cons, set_size r x h2]
      split
      · rfl
      · rfl
theorem eqlV (x : VarT) (W : World) : (binOp .eql 36 (.agg #[.string (txt x.1), .string (txt x.2.1), .bool x.2.2]) (.agg #[.string (txt x.1), .string (txt x.2.1), .bool x.2.2])).run Tryz.prog W = .ok (.bool true) W := by
  have u1 := Tryz.underlying9
  have u2 := Tryz.underlying4
  have a1 := Tryz.isAgg9
  have a2 := Tryz.isAgg4
  have z1 := Tryz.sizeOf9
  have z2 := Tryz.sizeOf4
  have hS : Tryz.prog.underlying 36 = some (.struct (Tryz.prog.fieldsOf 36)) := by kernel_rfl
  have hp : Tryz.prog.stoodInHeld 36 = false := by kernel_rfl
  rw [run_eql_struct, show (10000 : Nat) = 9999 + 1 from rfl, run_equalIn_agg W 9999 36 _ _ hS hp]
  simp only [Program.fieldsOf, Tryz.underlying36]
  go_simp
theorem get_some_mem {l : EnvT} {n : BT} (h : (getT l n).isSome = true) : ∃ y, getT l n = some y := Option.isSome_iff_exists.1 h
theorem srt_at {l : EnvT} (h : SrtT l) {k : Nat} {x y : VarT} (hx : l[k]? = some x) (hy : l[k + 1]? = some y) : x.1 < y.1 := by
  obtain ⟨h1, rfl⟩ := List.getElem?_eq_some_iff.1 hx
  obtain ⟨h2, rfl⟩ := List.getElem?_eq_some_iff.1 hy
  exact List.pairwise_iff_getElem.1 h k (k + 1) h1 h2 (Nat.lt_succ_self k)
/-- Get, in any world behind. -/
theorem get_later {Q : Nat → Prop} {o : Option Addr} {m c : Nat} {l : EnvT} {W : World} (h : EnvS W Q (.slice o m c) l) (hl : l.length ≤ 1000000) (n : ByteArray) : Hid (∀ W', Later W W' → Calls Tryz.prog 15 #[.agg #[.slice o m c], .string n] W' fun e w' => e = .returned (.tuple #[aggV ((getT l n.data.toList).getD ([], [], false)), .bool (getT l n.data.toList).isSome]) ∧ Later W' w') := fun W' hb =>
  get_any _ (.slice o m c) l n W' (h.below hb) hl
set_option maxRecDepth 100000 in
set_option maxHeartbeats 4000000 in
theorem varsSets_walk (ao : Option Addr) (n ac : Nat) (l : EnvT) (hn : n = l.length) (hz : ∀ x ∈ l, x.1.length ≤ maxLen ∧ x.2.1.length ≤ maxLen) (x : VarT) (_hx1 : x.1.length ≤ maxLen) (_hx2 : x.2.1.length ≤ maxLen) (name : ByteArray) (_hnm : name.size ≤ maxLen) (w : World) (hst : Std w) (hI : InV w ao ac l) :
    Calls Tryz.prog 9 #[.slice ao n ac, aggV x, .string name] w fun e w' => e = .returned (.bool true) ∧ Below w.heap.size w w' := by
  have hb0 := Later.self w (.cells #[.string (txt x.1), .string (txt x.2.1), .bool x.2.2] 36)
  have K0 := (Keep.nil w).put (.cells #[.string (txt x.1), .string (txt x.2.1), .bool x.2.2] 36)
  have HSh : Hid (∀ W, Later w W → Calls Tryz.prog 11 #[] W fun e w' => e = .returned (.bool true) ∧ Later W w') := fun W hb => shown_any W (hst.below hb)
  have HR : Hid (∀ W, Later w W → Calls Tryz.prog 12 #[.slice ao n ac] W (RowsPost l W)) := fun W hb => rows_any ao n ac l W hn (hI.below hb (Nat.le_refl _)) hz
  have HB0 := Lib.hid hb0
  have HK0 := Lib.hid K0
  have z1 : (txt x.1).size = x.1.length := txt_size _
  have z2 : (txt x.2.1).size = x.2.1.length := txt_size _
  unfold aggV
  clear hn hz hI hst hb0 K0
  have hcases : (rowsOk l = false ∨ (rowsOk l = true ∧ (60 : Int) < (x.1.length : Int)) ∨ (rowsOk l = true ∧ ¬ (60 : Int) < (x.1.length : Int) ∧ (600 : Int) < (x.2.1.length : Int)) ∨ (rowsOk l = true ∧ ¬ (60 : Int) < (x.1.length : Int) ∧ ¬ (600 : Int) < (x.2.1.length : Int) ∧ (60 : Int) < (name.size : Int))) ∨
      (rowsOk l = true ∧ ¬ (60 : Int) < (x.1.length : Int) ∧ ¬ (600 : Int) < (x.2.1.length : Int) ∧ ¬ (60 : Int) < (name.size : Int)) := by
    cases rowsOk l with
    | false => exact .inl (.inl rfl)
    | true => by_cases h1 : (60 : Int) < (x.1.length : Int) <;> by_cases h2 : (600 : Int) < (x.2.1.length : Int) <;> by_cases h3 : (60 : Int) < (name.size : Int) <;> simp [h1, h2, h3]
  rcases hcases with hbad | ⟨hok, d1, d2, d3⟩
  · rcases hbad with hok | ⟨hok, d1⟩ | ⟨hok, d1, d2⟩ | ⟨hok, d1, d2, d3⟩
    all_goals (
      have HO := Lib.hid hok
      clear hok
      go_enter Tryz.func9, Tryz.ntmps9
      go_wp2_with fail
      refine (HSh.out _ HB0.out).mono ?_
      rintro e w1 ⟨rfl, hb1⟩
      have HB1 := Lib.hid (HB0.out.on hb1)
      have HK1 := Lib.hid (HK0.out.on hb1)
      clear hb1 HSh HK0
      go_wp2_with fail
      refine (HR.out w1 HB1.out).mono ?_
      rintro e w2 ⟨o, m, c, o', m', c', rfl, hb2, hE2⟩
      rw [HO.out]
      have hb3 := (HB1.out.on hb2).put (.cells #[.slice o m c] 25)
      have HB3 := Lib.hid (hb3.put (.cells #[.slice o' m' c'] 28))
      have K3 := ((HK1.out.on hb2).put (.cells #[.slice o m c] 25)).put (.cells #[.slice o' m' c'] 28)
      obtain ⟨k0, k1, k2, _⟩ := three_cells K3.tail.tail.head
      clear hb2 hE2 HR hb3 K3 HK1
      go_wp2_with fail
      go_ret
      exact ⟨rfl, HB3.out⟩)
  · have HO := Lib.hid hok
    clear hok
    go_enter Tryz.func9, Tryz.ntmps9
    go_wp2_with fail
    refine (HSh.out _ HB0.out).mono ?_
    rintro e w1 ⟨rfl, hb1⟩
    have HB1 := Lib.hid (HB0.out.on hb1)
    have HK1 := Lib.hid (HK0.out.on hb1)
    clear hb1 HSh HK0
    go_wp2_with fail
    refine (HR.out w1 HB1.out).mono ?_
    rintro e w2 ⟨o, m, c, o', m', c', rfl, hb2, hE2⟩
    rw [HO.out]
    obtain ⟨hE3, _⟩ := hE2 HO.out
    have hm := hE3.len
    have hlen : (rowsE l).length ≤ 30 := by
      have h1 := rows_len l
      have h2 := (rows_envok HO.out).2.1
      have h3 := HO.out
      unfold rowsOk at h3
      rw [Bool.and_eq_true] at h3
      have := of_decide_eq_true h3.1
      omega
    have hS := rows_srt l
    have hsz := set_size (rowsE l) x hS
    have hset2 := set_srt (x := x) hS
    have hgx : getT (setT (rowsE l) x) x.1 = some x := by rw [get_set x.1 hS, if_pos rfl]
    have hgn : ∀ k : BT, k ≠ x.1 → getT (setT (rowsE l) x) k = getT (rowsE l) k := fun k hk => by rw [get_set k hS, if_neg hk]
    have hne := set_ne (rowsE l) x
    have HSet : Hid (∀ W, Later w2 W → Calls Tryz.prog 21 #[.agg #[.slice o m c], .agg #[.string (txt x.1), .string (txt x.2.1), .bool x.2.2]] W (SetPost (rowsE l) x W)) := fun W hb => set_any _ (.slice o m c) (rowsE l) x W (hE3.below hb) (by omega) hS
    have HGV := get_later hE3 (by omega)
    obtain ⟨L2, hL2⟩ : ∃ L2, L2 = setT (rowsE l) x := ⟨_, rfl⟩
    rw [← hL2] at hsz hset2 hgx hgn hne
    have HL2 := Lib.hid hL2
    have hb3 := (Later.on (Below.refl _ w2) (Later.self w2 (.cells #[.slice o m c] 25))).put (.cells #[.slice o' m' c'] 28)
    have HB3 := Lib.hid ((HB1.out.on hb2).on hb3)
    have K3 := ((HK1.out.on hb2).put (.cells #[.slice o m c] 25)).put (.cells #[.slice o' m' c'] 28)
    obtain ⟨k0, k1, k2, _⟩ := three_cells K3.tail.tail.head
    obtain ⟨v0, _⟩ := one_cell K3.tail.head
    have HC3 := Lib.hid hb3
    have HK3 := Lib.hid K3
    have HM := Lib.hid hm
    have HSz := Lib.hid hsz
    have HS2 := Lib.hid hset2
    have HGx := Lib.hid hgx
    have HGn : Hid (∀ k : BT, k ≠ x.1 → getT L2 k = getT (rowsE l) k) := hgn
    have HNe := Lib.hid hne
    have HLen := Lib.hid hlen
    clear hb2 hE2 hE3 hm hlen hS hsz hset2 hgx hgn hne hb3 K3 HR hL2 HK1 HB1
    go_wp2_with fail
    refine (HSet.out _ HC3.out).mono ?_
    rintro e w4 ⟨v', rfl, hE4, hb4⟩
    rw [← HL2.out] at hE4
    obtain ⟨o4, m4, c4, rfl⟩ := hE4.slice
    have hm4 := hE4.len
    have hl4 : L2.length ≤ 31 := by
      rw [HSz.out]
      have := HLen.out
      split <;> omega
    have hG4 := get_later hE4 (by omega)
    have HB5 := Lib.hid ((HB3.out.on hb4).put (.cells #[.slice o4 m4 c4] 25))
    have HC5 := Lib.hid ((HC3.out.on hb4).put (.cells #[.slice o4 m4 c4] 25))
    have K5 := (HK3.out.on hb4).put (.cells #[.slice o4 m4 c4] 25)
    obtain ⟨k0, k1, k2, _⟩ := three_cells K5.tail.tail.tail.head
    obtain ⟨u0, _⟩ := one_cell K5.head
    have HK5 := Lib.hid K5
    have HGX : Hid (∀ W, Later w4 W → Calls Tryz.prog 15 #[.agg #[.slice o4 m4 c4], .string (txt x.1)] W fun e w' => e = .returned (.tuple #[.agg #[.string (txt x.1), .string (txt x.2.1), .bool x.2.2], .bool true]) ∧ Later W w') := fun W hb => by
      have := (hG4 (txt x.1)).out W hb
      rw [txt_data, HGx.out] at this
      exact this
    have HGN : Hid (∀ W, Later w4 W → Calls Tryz.prog 15 #[.agg #[.slice o4 m4 c4], .string name] W fun e w' => e = .returned (.tuple #[aggV ((getT L2 name.data.toList).getD ([], [], false)), .bool (getT L2 name.data.toList).isSome]) ∧ Later W w') := fun W hb => (hG4 name).out W hb
    have HE4 := Lib.hid hE4
    have HM4 := Lib.hid hm4
    clear hb4 hE4 hm4 hG4 K5 HSet HC3 HK3 HB3 v0 hl4
    have HC6 := Lib.hid (Later.self w4 (.cells #[.slice o4 m4 c4] 25))
    go_wp2_with fail
    refine (HGX.out _ HC6.out).mono ?_
    rintro e w6 ⟨rfl, hb6⟩
    have HB7 := Lib.hid ((HB5.out.on hb6).put (.cells #[.string (txt x.1), .string (txt x.2.1), .bool x.2.2] 36))
    have HC7 := Lib.hid ((HC5.out.on hb6).put (.cells #[.string (txt x.1), .string (txt x.2.1), .bool x.2.2] 36))
    have HD7 := Lib.hid ((HC6.out.on hb6).put (.cells #[.string (txt x.1), .string (txt x.2.1), .bool x.2.2] 36))
    have K7 := (HK5.out.on hb6).put (.cells #[.string (txt x.1), .string (txt x.2.1), .bool x.2.2] 36)
    obtain ⟨v0, _⟩ := one_cell K7.tail.tail.tail.head
    obtain ⟨u0, _⟩ := one_cell K7.tail.head
    have HK7 := Lib.hid K7
    have hgv := HGV name
    obtain ⟨pa, hpa⟩ : ∃ p : VarT, p = (getT (rowsE l) name.data.toList).getD ([], [], false) := ⟨_, rfl⟩
    obtain ⟨ba, hba⟩ : ∃ b : Bool, b = (getT (rowsE l) name.data.toList).isSome := ⟨_, rfl⟩
    obtain ⟨pb, hpb⟩ : ∃ p : VarT, p = (getT L2 name.data.toList).getD ([], [], false) := ⟨_, rfl⟩
    obtain ⟨bb, hbb⟩ : ∃ b : Bool, b = (getT L2 name.data.toList).isSome := ⟨_, rfl⟩
    rw [← hpa, ← hba] at hgv
    rw [← hpb, ← hbb] at HGN
    have HSame : Hid (name.data.toList ≠ x.1 → pb = pa ∧ bb = ba) := fun hk => by rw [hpa, hba, hpb, hbb, HGn.out _ hk]; exact ⟨rfl, rfl⟩
    have HGA : Hid (∀ W, Later w2 W → Calls Tryz.prog 15 #[.agg #[.slice o m c], .string name] W fun e w' => e = .returned (.tuple #[.agg #[.string (txt pa.1), .string (txt pa.2.1), .bool pa.2.2], .bool ba]) ∧ Later W w') := hgv
    have HGB : Hid (∀ W, Later w4 W → Calls Tryz.prog 15 #[.agg #[.slice o4 m4 c4], .string name] W fun e w' => e = .returned (.tuple #[.agg #[.string (txt pb.1), .string (txt pb.2.1), .bool pb.2.2], .bool bb]) ∧ Later W w') := HGN
    clear hb6 K7 hgv hpa hba hpb hbb HGN HGX HC6 HK5 HB5 HC5 HGn k0 k1 k2
    go_wp2_with fail
    refine (HGA.out _ HC7.out).mono ?_
    rintro e w8 ⟨rfl, hb8⟩
    have HB9 := Lib.hid ((HB7.out.on hb8).put (.cells #[.string (txt pa.1), .string (txt pa.2.1), .bool pa.2.2] 36))
    have HC9 := Lib.hid ((HC7.out.on hb8).put (.cells #[.string (txt pa.1), .string (txt pa.2.1), .bool pa.2.2] 36))
    have HD9 := Lib.hid ((HD7.out.on hb8).put (.cells #[.string (txt pa.1), .string (txt pa.2.1), .bool pa.2.2] 36))
    have K9 := (HK7.out.on hb8).put (.cells #[.string (txt pa.1), .string (txt pa.2.1), .bool pa.2.2] 36)
    obtain ⟨u0, _⟩ := one_cell K9.tail.tail.head
    have HK9 := Lib.hid K9
    clear hb8 K9 HGA HK7 HB7 HC7 HD7 v0
    go_wp2_with fail
    refine (HGB.out _ HD9.out).mono ?_
    rintro e w10 ⟨rfl, hb10⟩
    have HB11 := Lib.hid ((HB9.out.on hb10).put (.cells #[.string (txt pb.1), .string (txt pb.2.1), .bool pb.2.2] 36))
    have HC11 := Lib.hid ((HC9.out.on hb10).put (.cells #[.string (txt pb.1), .string (txt pb.2.1), .bool pb.2.2] 36))
    have HD11 := Lib.hid ((HD9.out.on hb10).put (.cells #[.string (txt pb.1), .string (txt pb.2.1), .bool pb.2.2] 36))
    have HK11 := Lib.hid ((HK9.out.on hb10).put (.cells #[.string (txt pb.1), .string (txt pb.2.1), .bool pb.2.2] 36))
    clear hb10 HGB HK9 HB9 HC9 HD9 u0
    go_wp2_with fail
    generalize w10.alloc (.cells #[.string (txt pb.1), .string (txt pb.2.1), .bool pb.2.2] 36) = w11 at HB11 HC11 HD11 HK11 ⊢
    have HGH : Hid (∀ W, Later w2 W → Calls Tryz.prog 15 #[.agg #[.slice o m c], .string (txt x.1)] W fun e w' => e = .returned (.tuple #[aggV ((getT (rowsE l) x.1).getD ([], [], false)), .bool (getT (rowsE l) x.1).isSome]) ∧ Later W w') := fun W hb => by
      have := (HGV (txt x.1)).out W hb
      rw [txt_data] at this
      exact this
    have hm31 : m4 ≤ 31 := by
      rw [HM4.out, HSz.out]
      have := HLen.out
      split <;> omega
    go_loopw [18] (fun iv wr => ∃ k : Nat, 1 ≤ k ∧ k ≤ m4 ∧ iv = .int .i64 (k : Int) ∧ Hid (Later w11 wr)) (fun iv _ => m4 + 1 - (intOf iv).toNat)
    case atStart =>
      refine ⟨1, Nat.le_refl _, ?_, rfl, Below.refl _ _⟩
      rw [HM4.out]
      exact List.length_pos_iff.2 HNe.out
    case round =>
      obtain ⟨k, hk1, hk, rfl, HL⟩ := hrel
      obtain ⟨i, hki⟩ : ∃ i, k = i + 1 := ⟨k - 1, by omega⟩
      have KR := HK11.out.on HL.out
      obtain ⟨u0, _⟩ := one_cell KR.tail.tail.tail.head
      by_cases hlt : k < m4
      · have hl4 : k < L2.length := by rw [← HM4.out]; exact hlt
        obtain ⟨y, hy⟩ : ∃ y, L2[k]? = some y := ⟨_, List.getElem?_eq_getElem hl4⟩
        obtain ⟨z, hzz⟩ : ∃ z, L2[i]? = some z := ⟨_, List.getElem?_eq_getElem (by omega)⟩
        have hlt2 := srt_at HS2.out hzz (by rw [← hki]; exact hy)
        obtain ⟨b, rfl, hbl, hbc, hcy⟩ := HE4.out.var hy
        obtain ⟨b', eb, _, _, hcz⟩ := HE4.out.var hzz
        cases eb
        obtain ⟨y0, _, _⟩ := hcy wr (HD11.out.on HL.out)
        obtain ⟨q0, _, _⟩ := hcz wr (HD11.out.on HL.out)
        have e6 : (Op.bytesLess (txt y.1).toList (txt z.1).toList || (txt y.1).toList == (txt z.1).toList) = false := by
          rw [less_is, decide_eq_false (fun h => absurd (List.lt_trans h hlt2) (List.lt_irrefl _)), name_ne (fun h => by rw [h] at hlt2; exact absurd hlt2 (List.lt_irrefl _))]; rfl
        have hil : (k : Int) < (m4 : Int) := by omega
        have hi0 : (0 : Int) ≤ (k : Int) := by omega
        have hj0 : (0 : Int) ≤ (i : Int) := by omega
        have hjl : (i : Int) < (m4 : Int) := by omega
        have hw1 : (k : Int) - 1 = (i : Int) := by omega
        have hw2 : IntKind.i64.wrap (i : Int) = (i : Int) := by rw [IntKind.wrap_i64]; omega
        clear hl4 hy hzz hlt2 hcy hcz KR hki
        go_wp2_with fail
        go_quiet (fail)
        have HN := Lib.hid (HL.out.on (show Later wr (wr.drewN nq) from below_drewN (Below.refl _ wr) nq))
        generalize wr.drewN nq = w12 at HN ⊢
        clear u0 y0 q0
        go_wp2_with fail
        go_roundw
        case rel => exact ⟨k + 1, Nat.succ_pos _, hlt, by go_num, HN⟩
        case measure => simp [intOf]; omega
      · have hil : ¬ (k : Int) < (m4 : Int) := by omega
        obtain ⟨k0, k1, k2, _⟩ := three_cells KR.tail.tail.tail.tail.tail.tail.head
        obtain ⟨v0, _⟩ := one_cell KR.tail.tail.tail.tail.tail.head
        have HKR := Lib.hid KR
        have HCR := Lib.hid (HC11.out.on HL.out)
        have HBR := Lib.hid (HB11.out.on HL.out)
        obtain ⟨ph, hph⟩ : ∃ p : VarT, p = (getT (rowsE l) x.1).getD ([], [], false) := ⟨_, rfl⟩
        obtain ⟨bh, hbh⟩ : ∃ b : Bool, b = (getT (rowsE l) x.1).isSome := ⟨_, rfl⟩
        have hsz := HSz.out
        rw [← HM4.out, ← HM.out, ← hbh] at hsz
        rw [← hph, ← hbh] at HGH
        have HGI : Hid (∀ W, Later w2 W → Calls Tryz.prog 15 #[.agg #[.slice o m c], .string (txt x.1)] W fun e w' => e = .returned (.tuple #[.agg #[.string (txt ph.1), .string (txt ph.2.1), .bool ph.2.2], .bool bh]) ∧ Later W w') := HGH
        have HSz2 := Lib.hid hsz
        have hm30 : m ≤ 30 := by rw [HM.out]; exact HLen.out
        clear hph hbh hsz HGH KR HL HK11 HC11 HB11 HD11
        go_wp2_with fail
        refine (HGI.out _ HCR.out).mono ?_
        rintro e w13 ⟨rfl, hb13⟩
        have HB14 := Lib.hid ((HBR.out.on hb13).put (.cells #[.string (txt ph.1), .string (txt ph.2.1), .bool ph.2.2] 36))
        have K14 := (HKR.out.on hb13).put (.cells #[.string (txt ph.1), .string (txt ph.2.1), .bool ph.2.2] 36)
        obtain ⟨k0, k1, k2, _⟩ := three_cells K14.tail.tail.tail.tail.tail.tail.tail.head
        obtain ⟨v0, _⟩ := one_cell K14.tail.tail.tail.tail.tail.tail.head
        obtain ⟨u0, _⟩ := one_cell K14.tail.tail.tail.tail.head
        obtain ⟨y0, y1, y2, _⟩ := three_cells K14.tail.tail.tail.head
        obtain ⟨a0, a1, a2, _⟩ := three_cells K14.tail.tail.head
        obtain ⟨b0, b1, b2, _⟩ := three_cells K14.tail.head
        have q1 := eqlV x
        clear hb13 K14 HGI HKR HCR HBR
        by_cases hnx : name.data.toList = x.1
        · have n1 : (name.toList == (txt x.1).toList) = true := by rw [Lib.toList_data, txt_toL, hnx]; simp
          clear hnx HSame
          cases bh with
          | true =>
            have hs1 : m4 = m := HSz2.out
            have d9 : ((m4 : Int) == (m : Int)) = true := by rw [hs1]; simp
            clear hs1
            go_wp2_with fail
            go_ret
            exact ⟨rfl, HB14.out⟩
          | false =>
            have hs1 : m4 = m + 1 := HSz2.out
            have d9 : ((m4 : Int) == (m : Int) + 1) = true := by rw [hs1]; simp
            have d8 : ((m4 : Int) == (m : Int)) = false := by rw [beq_eq_false_iff_ne]; omega
            clear hs1
            go_wp2_with fail
            go_ret
            exact ⟨rfl, HB14.out⟩
        · have n1 : (name.toList == (txt x.1).toList) = false := by rw [Lib.toList_data, txt_toL]; simpa using hnx
          obtain ⟨rfl, rfl⟩ := HSame.out hnx
          have q2 := eqlV pb
          clear hnx HSame
          cases bh with
          | true =>
            have hs1 : m4 = m := HSz2.out
            have d9 : ((m4 : Int) == (m : Int)) = true := by rw [hs1]; simp
            clear hs1
            go_wp2_with fail
            go_ret
            exact ⟨rfl, HB14.out⟩
          | false =>
            have hs1 : m4 = m + 1 := HSz2.out
            have d9 : ((m4 : Int) == (m : Int) + 1) = true := by rw [hs1]; simp
            have d8 : ((m4 : Int) == (m : Int)) = false := by rw [beq_eq_false_iff_ne]; omega
            clear hs1
            go_wp2_with fail
            go_ret
            exact ⟨rfl, HB14.out⟩
end Go.Proofs.YtbngoodjgijmgaaGreatDoor
