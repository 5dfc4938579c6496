/-
  The program's own store: Open. No condition.
-/
import Derived.Deep.QuietTactic
import Derived.Deep.DeepCutAuto
import Derived.Deep.CutBlock
import Derived.BigQuiet
import Derived.Test.YtchnbnmajagpjaaGreatDoorBOp
namespace Go.Proofs.YtchnbnmajagpjaaGreatDoor
open Go.RowKit Go.Shelf Go.Maps

section
variable {w0 w : World} {l : List Own} {room : Int} {sb bt b n : Nat} {p : ByteArray} {v : Value} {L : List BS} {S : St}
theorem ReadsLL.part {w : World} {B : Nat} {o : Option Addr} {N c : Nat} {xss : List (List ByteArray)} (h : ReadsLL w B (.slice o N c) xss) {m : Nat} (hm : m ≤ xss.length) : ReadsLL w B (.slice o m c) (xss.take m) := by
  obtain ⟨o', c', hv, hx⟩ := h
  cases hv
  have e : (xss.take m).length = m := by rw [List.length_take]; omega
  refine ⟨o, c, by rw [e], fun i xs hi => ?_⟩
  have him : i < m := by have := (List.getElem?_eq_some_iff.1 hi).1; rw [e] at this; exact this
  rw [List.getElem?_take_of_lt him] at hi
  obtain ⟨b, f, u, h1, h2, h3, h4, h5⟩ := hx i xs hi
  exact ⟨b, f, u, h1, h2, by rw [e]; omega, h4, h5⟩
/-- A new store. -/
theorem In.newStore (h : In w0 l w) (b : Nat) (p : ByteArray) :
    In w0 (oStore (w.heap.size + 1) b p [] :: l) ((w.alloc (.map #[] 0)).alloc (.cells #[.pointer (some ⟨b, 0, none⟩), .string p, .slice none 0 0, .map (some w.heap.size)] 68)) := by
  have h1 : In w0 (oIds w.heap.size [] :: l) (w.alloc (.map #[] 0)) :=
    h.add (X := fun n => n = w.heap.size) ((Below.refl _ w).alloc (Nat.le_refl _) _) ⟨IsIds.made w, fun _ => Iff.rfl⟩ (fun n hn => by omega)
  have h2 := (h1.empty 9 1 encS).alloc [.pointer (some ⟨b, 0, none⟩), .string p, .slice none 0 0, .map (some w.heap.size)] 68
  rw [show (w.alloc (.map #[] 0)).heap.size = w.heap.size + 1 by simp] at h2
  exact In.stored (v := .slice none 0 0) (m := w.heap.size) h2

set_option maxRecDepth 100000 in
set_option maxHeartbeats 4000000 in
theorem In.bopen (h : In w0 (oTree room b S :: l) w) (hg : Good room n S) (hn : n < 268435200) (p : ByteArray) (hp : p.size ≤ 1048000) (ht : ∀ q, (textOf S.now q).length ≤ 900000) :
    Calls Tryz.prog 12 #[.pointer (some ⟨b, 0, none⟩), .string p] w (OpenB w0 l (fun sb L => oStore sb b p L) (fun S => oTree room b S) (bOpen room S p.data.toList)) := by
  have hO := h.jopen hg (by omega) p hp (fun q => by have := ht q; omega)
  obtain ⟨s, hs, hls⟩ := told_lists (room := room) hg p.data.toList ht
  have hg1 := hg.jOpen p.data.toList
  unfold bOpen
  obtain ⟨R, hR⟩ : ∃ R, R = jOpen room S p.data.toList := ⟨_, rfl⟩
  rw [← hR] at hO hls hg1 ⊢
  obtain ⟨ls, cd, S1⟩ := R
  replace hls : ls = listsOf s := hls
  replace hg1 : Good room (n + 4) S1 := hg1
  have hcnt : ls.length ≤ 900000 := by rw [hls]; have := lists_count s; omega
  have hfit : ∀ x ∈ ls, Fit x := by rw [hls]; exact lists_fit s
  have hmod : Mod ls := by rw [hls]; exact mod_lines (by omega)
  clear hls hs hR
  have HO := Lib.hid hO
  show Calls _ _ _ _ (OpenB w0 l (fun sb L => oStore sb b p L) (fun S => oTree room b S) (if cd = 0 then if (keepsOf ls).length < ls.length then ((jAnew room S1 p.data.toList (single (keepsOf ls))).1, keepsOf ls, (jAnew room S1 p.data.toList (single (keepsOf ls))).2) else (0, keepsOf ls, S1) else (cd, [], S1)))
  obtain ⟨hk1, hk2, _⟩ := keeps_prefix ls
  obtain ⟨xss, hxss⟩ : ∃ xss, xss = LLtxt ls := ⟨_, rfl⟩
  have hraw : rawLL xss = ls := by rw [hxss, raw_txt]
  have hxl : xss.length = ls.length := by rw [← hraw, rawLL_len]
  have hxz : ∀ xs ∈ xss, xs.length ≤ maxLen ∧ ∀ x ∈ xs, x.size ≤ 1000000 := by rw [hxss]; exact fits_ok hfit
  by_cases hz : cd = 0
  · rw [if_pos hz]
    subst hz
    obtain ⟨K, hK⟩ : ∃ K, K = keepsOf ls := ⟨_, rfl⟩
    rw [← hK] at hk1 hk2 ⊢
    -- the new store, and what it keeps
    have HR : Hid (∀ o c w1, In w0 (oList (.slice o ls.length c) xss :: oTree room b S1 :: l) w1 → ∃ vals, Calls Tryz.prog 30 #[.pointer (some ⟨w1.heap.size + 1, 0, none⟩), .slice o ls.length c] ((w1.alloc (.map #[] 0)).alloc (.cells #[.pointer (some ⟨b, 0, none⟩), .string p, .slice none 0 0, .map (some w1.heap.size)] 68))
        fun r w' => r = .returned (.tuple #[]) ∧ In w0 (oStore (w1.heap.size + 1) b p K :: oVals (.slice o ls.length c) vals xss :: oTree room b S1 :: l) w') := fun o c w1 h1 => by
      obtain ⟨vals, h2⟩ := h1.vals
      have := (h2.newStore b p).bkeepRight (by rw [hxl]; simp; omega) hxz
      rw [hraw] at this
      rw [hK]
      exact ⟨vals, this⟩
    have HL : Hid (∀ sb vl w3, In w0 (oStore sb b p K :: vl :: oTree room b S1 :: l) w3 → Calls Tryz.prog 23 #[.pointer (some ⟨sb, 0, none⟩)] w3 fun e w' => e = .returned (.int .i64 K.length) ∧ w3 = w') := fun sb vl w3 h3 =>
      h3.blen (sb := sb) (bt := b) (p := p) (L := K) (by simp)
    by_cases hlt : K.length < ls.length
    · rw [if_pos hlt]
      have hA : ∀ sb o c vals w3, In w0 (oStore sb b p K :: oVals (.slice o ls.length c) vals xss :: oTree room b S1 :: l) w3 → (∃ bb f, o = some ⟨bb, f, none⟩ ∧ ls.length ≤ c) ∧ Calls Tryz.prog 31 #[.pointer (some ⟨b, 0, none⟩), .string p, .slice o K.length c] w3 fun r w' => r = .returned (.int .i64 (jAnew room S1 p.data.toList (single K)).1) ∧
          In w0 (oTree room b (jAnew room S1 p.data.toList (single K)).2 :: oStore sb b p K :: l) w' := fun sb o c vals w3 h3 => by
        obtain ⟨o', c', hv, _, hx⟩ := h3.valsAt (v := .slice o ls.length c) (vals := vals) (xss := xss) (by simp)
        injection hv with a1 _ a3
        subst a1 a3
        have h0 : 0 < xss.length := by omega
        obtain ⟨bb, f, _, q1, q2, _⟩ := hx 0 _ (List.getElem?_eq_getElem h0)
        refine ⟨⟨bb, f, q1, by rw [← hxl]; exact q2⟩, ?_⟩
        have hrd := (h3.valsReads (v := .slice o ls.length c) (vals := vals) (xss := xss) (by simp)).part (m := K.length) (by omega)
        have hrw : rawLL (xss.take K.length) = single K := by rw [rawLL_take, hraw]; exact hk2
        have := h3.third.janew hg1 (by omega) p hp _ _ hrd (by unfold maxLen; rw [List.length_take]; omega) (fun xs hm => hxz xs (List.mem_of_mem_take hm)) (by rw [rawLL_take, hraw]; exact mod_take hmod _)
        rw [hrw] at this
        exact this.mono fun r w' k => ⟨k.1, k.2.third.tail⟩
      obtain ⟨R2, hR2⟩ : ∃ R2, R2 = jAnew room S1 p.data.toList (single K) := ⟨_, rfl⟩
      rw [← hR2] at hA ⊢
      obtain ⟨ca, S2⟩ := R2
      replace hA : ∀ sb o c vals w3, In w0 (oStore sb b p K :: oVals (.slice o ls.length c) vals xss :: oTree room b S1 :: l) w3 → (∃ bb f, o = some ⟨bb, f, none⟩ ∧ ls.length ≤ c) ∧ Calls Tryz.prog 31 #[.pointer (some ⟨b, 0, none⟩), .string p, .slice o K.length c] w3 fun r w' => r = .returned (.int .i64 ca) ∧ In w0 (oTree room b S2 :: oStore sb b p K :: l) w' := hA
      have HA := Lib.hid hA
      show Calls _ _ _ _ (OpenB w0 l (fun sb L => oStore sb b p L) (fun S => oTree room b S) (ca, K, S2))
      have HE1 : Hid (ca = 0 → ∀ w' sb, In w0 (oTree room b S2 :: oStore sb b p K :: l) w' → OpenB w0 l (fun sb L => oStore sb b p L) (fun S => oTree room b S) (ca, K, S2) (.returned (.tuple #[.pointer (some ⟨sb, 0, none⟩), .int .i64 0])) w') :=
        fun h1 w' sb h3 => .inl ⟨h1, sb, rfl, h3.swap⟩
      have HE2 : Hid (ca ≠ 0 → ∀ w' sb, In w0 (oTree room b S2 :: oStore sb b p K :: l) w' → OpenB w0 l (fun sb L => oStore sb b p L) (fun S => oTree room b S) (ca, K, S2) (.returned (.tuple #[.pointer none, .int .i64 ca])) w') :=
        fun h1 w' sb h3 => .inr ⟨h1, rfl, h3.swap.tail⟩
      have d1 : ((K.length : Int) == (ls.length : Int)) = false := by simp; omega
      replace HO : Hid (Calls Tryz.prog 29 #[.pointer (some ⟨b, 0, none⟩), .string p] w fun r w1 => ∃ o c, r = .returned (.tuple #[.slice o ls.length c, .int .i64 0]) ∧ In w0 (oList (.slice o ls.length c) xss :: oTree room b S1 :: l) w1) := by
        rw [hxss]; exact HO.out
      have hKN : K.length ≤ ls.length := hk1
      have hN9 := hcnt
      clear hO hxz hxl hraw hxss hk1 hk2 hmod hfit hcnt hg1 hg h hA hR2 hK
      generalize ls.length = N at *
      have hKi : (K.length : Int) ≤ (N : Int) := by omega
      generalize K.length = M at *
      have hmm := @run_makeMap Tryz.prog
      have hM0 : (0 : Int) ≤ (M : Int) := by omega
      generalize OpenB w0 l (fun sb L => oStore sb b p L) (fun S => oTree room b S) (ca, K, S2) = Q at *
      by_cases hca : ca = 0
      · have HE := Lib.hid (HE1.out hca)
        have e0 : (ca != 0) = false := by simp [hca]
        clear HE1 HE2 hca
        go_enter Tryz.func12, Tryz.ntmps12
        go_wp2_with fail
        with_reducible refine HO.out.mono ?_
        rintro e w1 ⟨o, c, rfl, h1⟩
        obtain ⟨vals, hKR⟩ := HR.out _ _ _ h1
        go_wp2_with fail
        refine hKR.mono ?_
        rintro e w3 ⟨rfl, h3⟩
        have HLen := Lib.hid (HL.out _ _ _ h3)
        obtain ⟨⟨bb, f, rfl, hcl⟩, hAn⟩ := HA.out _ _ _ _ _ h3
        have HAn := Lib.hid hAn
        have hMc : (M : Int) ≤ (c : Int) := by omega
        clear hKR h1 h3 hAn HR HL HA HO
        go_wp2_with (first
          | (go_at_call 23; refine HLen.out.mono ?_; rintro e w4 ⟨rfl, rfl⟩)
          | (go_at_call 31; refine HAn.out.mono ?_; rintro e w5 ⟨rfl, h5⟩))
        exact HE.out _ _ h5
      · have HE := Lib.hid (HE2.out hca)
        have e0 : (ca != 0) = true := by simp [hca]
        clear HE1 HE2 hca
        go_enter Tryz.func12, Tryz.ntmps12
        go_wp2_with fail
        with_reducible refine HO.out.mono ?_
        rintro e w1 ⟨o, c, rfl, h1⟩
        obtain ⟨vals, hKR⟩ := HR.out _ _ _ h1
        go_wp2_with fail
        refine hKR.mono ?_
        rintro e w3 ⟨rfl, h3⟩
        have HLen := Lib.hid (HL.out _ _ _ h3)
        obtain ⟨⟨bb, f, rfl, hcl⟩, hAn⟩ := HA.out _ _ _ _ _ h3
        have HAn := Lib.hid hAn
        have hMc : (M : Int) ≤ (c : Int) := by omega
        clear hKR h1 h3 hAn HR HL HA HO
        go_wp2_with (first
          | (go_at_call 23; refine HLen.out.mono ?_; rintro e w4 ⟨rfl, rfl⟩)
          | (go_at_call 31; refine HAn.out.mono ?_; rintro e w5 ⟨rfl, h5⟩))
        exact HE.out _ _ h5
    · rw [if_neg hlt]
      have hKe : K.length = ls.length := by omega
      have HE : Hid (∀ w' sb vl, In w0 (oStore sb b p K :: vl :: oTree room b S1 :: l) w' → OpenB w0 l (fun sb L => oStore sb b p L) (fun S => oTree room b S) (0, K, S1) (.returned (.tuple #[.pointer (some ⟨sb, 0, none⟩), .int .i64 0])) w') :=
        fun w' sb vl h3 => .inl ⟨rfl, sb, rfl, h3.swap.tail⟩
      replace HO : Hid (Calls Tryz.prog 29 #[.pointer (some ⟨b, 0, none⟩), .string p] w fun r w1 => ∃ o c, r = .returned (.tuple #[.slice o ls.length c, .int .i64 0]) ∧ In w0 (oList (.slice o ls.length c) xss :: oTree room b S1 :: l) w1) := by
        rw [hxss]; exact HO.out
      clear hO hxz hxl hraw hxss hk1 hk2 hmod hfit hg1 hg h hlt
      rw [hKe] at HL
      clear hKe
      generalize ls.length = N at *
      have hmm := @run_makeMap Tryz.prog
      generalize OpenB w0 l (fun sb L => oStore sb b p L) (fun S => oTree room b S) (0, K, S1) = Q at *
      go_enter Tryz.func12, Tryz.ntmps12
      go_wp2_with fail
      with_reducible refine HO.out.mono ?_
      rintro e w1 ⟨o, c, rfl, h1⟩
      obtain ⟨vals, hKR⟩ := HR.out _ _ _ h1
      go_wp2_with fail
      refine hKR.mono ?_
      rintro e w3 ⟨rfl, h3⟩
      have HLen := Lib.hid (HL.out _ _ _ h3)
      clear hKR h1 HR HL HO
      go_wp2_with (go_at_call 23; refine HLen.out.mono ?_; rintro e w4 ⟨rfl, rfl⟩)
      exact HE.out _ _ _ h3
  · rw [if_neg hz]
    have HE : Hid (∀ w' o c, In w0 (oList (.slice o ls.length c) (LLtxt ls) :: oTree room b S1 :: l) w' → OpenB w0 l (fun sb L => oStore sb b p L) (fun S => oTree room b S) (cd, [], S1) (.returned (.tuple #[.pointer none, .int .i64 cd])) w') :=
      fun w' o c h3 => .inr ⟨hz, rfl, h3.tail⟩
    replace HO : Hid (Calls Tryz.prog 29 #[.pointer (some ⟨b, 0, none⟩), .string p] w fun r w1 => ∃ o c, r = .returned (.tuple #[.slice o ls.length c, .int .i64 cd]) ∧ In w0 (oList (.slice o ls.length c) (LLtxt ls) :: oTree room b S1 :: l) w1) := HO.out
    have e0 : (cd != 0) = true := by simp [hz]
    clear hO hxz hxl hraw hxss hk1 hk2 hmod hfit hg1 hg h hz
    generalize OpenB w0 l (fun sb L => oStore sb b p L) (fun S => oTree room b S) (cd, [], S1) = Q at *
    generalize ls.length = N at *
    go_enter Tryz.func12, Tryz.ntmps12
    go_wp2_with fail
    with_reducible refine HO.out.mono ?_
    rintro e w1 ⟨o, c, rfl, h1⟩
    go_wp2
    exact HE.out _ _ _ h1
end

end Go.Proofs.YtchnbnmajagpjaaGreatDoor
