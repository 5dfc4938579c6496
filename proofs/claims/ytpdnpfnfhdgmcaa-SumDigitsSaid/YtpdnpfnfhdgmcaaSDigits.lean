/-
  SumDigits: two numbers have the same eight digits just if they are one: for every two numbers. No condition.
-/
import Derived.Test.YtpdnpfnfhdgmcaaRowP
import Derived.Test.YtpdnpfnfhdgmcaaSRef
namespace Go.Proofs.Ytpdnpfnfhdgmcaa
open Go.ChangeShapes Go.WideShapes Go.ChangeAt Go.RowKit

theorem ext8 {s : ByteArray} {a : Nat} (hs : s = txt (hexN a)) (i : Nat) (hi : i < 8) (h : i < s.size) : s[i] = digB (a / 16 ^ (7 - i) % 16) := by
  have key : ∀ (i : Nat) (hi : i < 8), (hexN a)[i]? = some (digB (a / 16 ^ (7 - i) % 16)) := by
    intro i hi
    match i, hi with
    | 0, _ => rfl
    | 1, _ => rfl
    | 2, _ => rfl
    | 3, _ => rfl
    | 4, _ => rfl
    | 5, _ => rfl
    | 6, _ => rfl
    | 7, _ => rfl
  have e : s.data.toList = hexN a := by rw [hs, txt_data]
  have h2 : s.data.toList[i]? = some s[i] := by
    rw [List.getElem?_eq_getElem (by rw [Array.length_toList]; exact h)]; rfl
  rw [e, key i hi] at h2
  exact (Option.some.inj h2).symm
def Inner (n d k m : Nat) : Prop := m = if d < k then 16 * n + d else n

set_option maxRecDepth 100000 in
set_option maxHeartbeats 2000000 in
theorem sumDigits_walk (a : Nat) (ha : a < 4294967296) (b : Nat) (hb : b < 4294967296) (w : World) : Calls Try.prog 7 #[.int .u32 a, .int .u32 b] w (LawPost w) := by
  have HW := Lib.hid shown_any
  have hea := hex_any a ha
  have heb := hex_any b hb
  have hsz : (txt (hexN a)).size = 8 := by rw [txt_size]; exact digs_len a 8
  have hsame : ((txt (hexN a)).toList == (txt (hexN b)).toList) = ((a : Int) == (b : Int)) := by
    rw [txt_toL, txt_toL, Bool.eq_iff_iff]
    simp only [beq_iff_eq]
    exact ⟨fun h => by rw [hex_inj ha hb h], fun h => by rw [show a = b by omega]⟩
  obtain ⟨s, hs⟩ : ∃ s, s = txt (hexN a) := ⟨_, rfl⟩
  obtain ⟨t, ht⟩ : ∃ t, t = txt (hexN b) := ⟨_, rfl⟩
  rw [← hs] at hea hsz hsame
  rw [← ht] at heb hsame
  have HS := Lib.hid hs
  have HA := Lib.hid hea
  have HB := Lib.hid heb
  have HZ := Lib.hid hsz
  have HQ := Lib.hid hsame
  clear hs hea heb hsz ht hsame
  have hz1 : 8 ≤ s.size := by rw [HZ.out]; exact Nat.le_refl _
  have hz2 : s.size ≤ 8 := by rw [HZ.out]; exact Nat.le_refl _
  go_enter Try.func7, Try.ntmps7
  go_wp2_with fail
  refine (HW.out _).mono ?_
  rintro e w1 ⟨rfl, hb1⟩
  go_wp2_with fail
  refine (HA.out _).mono ?_
  rintro e w2 ⟨rfl, hb2⟩
  go_wp2_with fail
  go_loopg [7, 8, 9] 8 (fun g vn vi _ wr => ∃ (i n q : Nat), i + g = 8 ∧ vi = .int .i64 i ∧ vn = .int .i64 n ∧ Hid (n = a / 16 ^ (8 - i)) ∧ wr = w2.drewN q)
  case atStart => exact ⟨0, 0, 0, by omega, rfl, rfl, by show _ = _; simp; omega, rfl⟩
  case round =>
    obtain ⟨i, n, q, hi, rfl, rfl, HN, rfl⟩ := hrel
    have hn : n < 4294967296 := by rw [HN.out]; exact Nat.lt_of_le_of_lt (Nat.div_le_self _ _) ha
    by_cases hlt : i < 8
    · have hlt' : i < s.size := by omega
      obtain ⟨d, hd⟩ : ∃ d, d = a / 16 ^ (7 - i) % 16 := ⟨_, rfl⟩
      have hd16 : d < 16 := by rw [hd]; exact Nat.mod_lt _ (by decide)
      have hnx : 16 * n + d = a / 16 ^ (8 - (i + 1)) := by
        rw [HN.out, hd, show 8 - i = (7 - i) + 1 by omega, show 8 - (i + 1) = 7 - i by omega, Nat.pow_succ, ← Nat.div_div_eq_div_mul]
        omega
      have HD : Hid (s[i] = digB d) := by show _ = _; rw [hd]; exact ext8 HS.out i hlt hlt'
      have HX := Lib.hid hnx
      have hnd : 16 * n + d < 4294967296 := by rw [hnx]; exact Nat.lt_of_le_of_lt (Nat.div_le_self _ _) ha
      clear hd hnx
      go_wp2_with fail
      go_loopg [7, 9] 16 (fun g vn vk wr => ∃ (k m q : Nat), k + g = 16 ∧ vk = .int .i64 k ∧ vn = .int .i64 m ∧ m < 4294967296 ∧ Hid (Inner n d k m) ∧ wr = w2.drewN q)
      case atStart => exact ⟨0, n, q, by omega, rfl, rfl, hn, by show _ = _; simp, rfl⟩
      case round =>
        obtain ⟨k, m, q, hk, rfl, rfl, hm, HI, rfl⟩ := hrel
        by_cases hltk : k < 16
        · have hdk := dig_tab k hltk
          by_cases hkd : d = k
          · subst hkd
            have c1 : ((s[i].toNat : Int) == ((⟨#[48, 49, 50, 51, 52, 53, 54, 55, 56, 57, 97, 98, 99, 100, 101, 102]⟩ : ByteArray)[d]'hltk).toNat) = true := by rw [HD.out, hdk]; simp
            have HI2 : Hid (Inner n d (d + 1) (16 * m + d)) := by
              have := HI.out; unfold Inner at *; rw [if_neg (by omega)] at this; show _ = _; rw [if_pos (by omega), this]
            have hm2 : m = n := by have := HI.out; unfold Inner at this; rwa [if_neg (by omega)] at this
            have hm3 : 16 * m + d < 4294967296 := by rw [hm2]; exact hnd
            clear hdk hm2
            go_wp2_with fail
            go_quiet (fail)
            go_wp2_with fail
            go_roundg (15 - d)
            case measure => omega
            case rel => exact ⟨d + 1, 16 * m + d, _, by omega, by go_num, by go_num, hm3, HI2, rfl⟩
          · have c1 : ((s[i].toNat : Int) == ((⟨#[48, 49, 50, 51, 52, 53, 54, 55, 56, 57, 97, 98, 99, 100, 101, 102]⟩ : ByteArray)[k]'hltk).toNat) = false := by
              rw [HD.out, hdk]
              simp only [beq_eq_false_iff_ne, ne_eq]
              intro h
              exact hkd (dig_inj hd16 hltk (UInt8.toNat_inj.1 (by omega)))
            have HI2 : Hid (Inner n d (k + 1) m) := by
              have := HI.out; unfold Inner at *; show _ = _; rw [this]; by_cases h : d < k
              · rw [if_pos h, if_pos (by omega)]
              · rw [if_neg h, if_neg (by omega)]
            clear hdk
            go_wp2_with fail
            go_quiet (fail)
            go_wp2_with fail
            go_roundg (15 - k)
            case measure => omega
            case rel => exact ⟨k + 1, m, _, by omega, by go_num, rfl, hm, HI2, rfl⟩
        · go_wp2_with fail
          have hmm : m = 16 * n + d := by have := HI.out; unfold Inner at this; rwa [if_pos (by omega)] at this
          have HM2 : Hid (m = a / 16 ^ (8 - (i + 1))) := by show _ = _; rw [hmm, HX.out]
          clear hmm
          go_roundg (7 - i)
          case measure => omega
          case rel => exact ⟨i + 1, m, _, by omega, by go_num, rfl, HM2, rfl⟩
    · obtain rfl : i = 8 := by omega
      obtain rfl : n = a := by have := HN.out; simpa using this
      have c1 : ((s.size : Int) == 8) = true := by rw [HZ.out]; rfl
      go_wp2_with fail
      refine (HB.out _).mono ?_
      rintro e w3 ⟨rfl, hb3⟩
      have c2 := HQ.out
      have c3 : (((n : Int) == (b : Int)) == ((n : Int) == (b : Int))) = true := by simp
      go_wp2_with fail
      go_ret
      exact ⟨rfl, below3 hb1 (below_drewN hb2 q) hb3⟩

set_option maxRecDepth 100000 in
theorem sumDigits_lifted (os : Os) (started : os.Started) (H : Type) (enc : TypeId × Value → H) :
    ReturnsInHanded {} Try.checked os 7 .any (Rows.sumDigitsSpec.pre6 enc Try.prog Try.f7 Rows.sumDigitsRow.domain false) (Rows.sumDigitsSpec.post enc Try.prog Try.f7 false true false false) := by
  refine returnsInHanded_of_change (C := Try.checked) own_knob started (by kernel_rfl) Try.func7
    (ChangeSpec.witness6 (enc := enc) (C := Try.checked) false ⟨#[], #[.int .u32 0, .int .u32 0], []⟩ 8 (by kernel_rfl) (by kernel_rfl) (by kernel_rfl) (by kernel_rfl)) ?_
  intro W base args ds gs before hval0 hW _ _
  have hval : ∀ (j : Nat) t v, Try.f7.params[j]? = some t → args[j]? = some v → Value.okWide Try.prog W .any base t v := hval0
  have hW' := hW
  obtain ⟨p, q, hA0, hV, rfl, hfz, hnd⟩ := hW
  have hA : DataW.TrodAll enc Try.prog W 0 (fun _ => true) true Try.f7.params.toList args.toList ds p := hA0
  rw [Try.params7] at hA hval
  obtain ⟨v0, v1, d0, d1, p0, p1, rfl, rfl, rfl, h0, h1⟩ := trodAll_two hA
  obtain ⟨rfl, rfl⟩ := trodVars_none hV
  clear hA0 hval0
  simp only [List.append_nil] at hW'
  obtain ⟨i0, rfl, rfl, rfl, ws0⟩ := open_int Try.underlying22 (hval 0 22 v0 rfl rfl) h0
  obtain ⟨n0, rfl⟩ : ∃ n : Nat, i0 = (n : Int) := Int.eq_ofNat_of_zero_le (bounds_u32 ws0).1
  obtain ⟨i1, rfl, rfl, rfl, ws1⟩ := open_int Try.underlying22 (hval 1 22 v1 rfl rfl) h1
  obtain ⟨n1, rfl⟩ : ∃ n : Nat, i1 = (n : Int) := Int.eq_ofNat_of_zero_le (bounds_u32 ws1).1
  refine (sumDigits_walk n0 (by have := (bounds_u32 ws0).2; omega) n1 (by have := (bounds_u32 ws1).2; omega) W ).mono fun e W' h => ⟨.bool true, h.1, ?_⟩
  exact post_true_at hW' rfl (by kernel_rfl) Try.underlying4 rfl (trodAll_mk2 (shut_int Try.underlying22 ws0) (shut_int Try.underlying22 ws1)) h.2

theorem sumDigits_holds : Rows.SumDigitsSaid :=
  OpenClaim.holds_of_wide 7 Try.f7 rfl rfl rfl rfl rfl rfl rfl ⟨rfl, rfl, rfl, rfl, rfl⟩ rfl rfl rfl rfl rfl (by kernel_rfl) Try.func7 (by kernel_rfl)
    (of_decide_eq_true (by kernel_rfl)) (by unfold Func.isWrapper; first | (rw [if_pos (by decide +kernel)]; kernel_rfl) | (rw [if_neg (by decide +kernel)]; exact ⟨rfl, rfl⟩))
    (fun os started H enc _ => sumDigits_lifted os started H enc)

end Go.Proofs.Ytpdnpfnfhdgmcaa
