/-
  The document's own store: Open, whole. No condition.
-/
import Derived.Deep.RegionHeld3
import Derived.Deep.QuietTactic
import Derived.Deep.DeepCutAuto
import Derived.Deep.CutBlock
import Derived.BigQuiet
import Derived.Test.YtchnbnmajagpjaaGreatDoorBRef3
namespace Go.Proofs.YtchnbnmajagpjaaGreatDoor
open Go.RowKit Go.Shelf Go.Maps

section
variable {w0 w : World} {l : List Own} {room : Int} {sb bt b n : Nat} {p : ByteArray} {v : Value} {L : List BS} {S : St}
set_option maxRecDepth 100000 in
set_option maxHeartbeats 4000000 in
/-- The walk, from what it needs. -/
theorem rbopen_walk {ls : LL} {xss : List (List ByteArray)} {S1 : St} {K : List BS} {Q : Ending → World → Prop} (hxl : xss.length = ls.length) (hraw : rawLL xss = ls) (hN9 : xss.length ≤ 900000)
    (hxz : ∀ xs ∈ xss, xs.length ≤ maxLen ∧ ∀ x ∈ xs, x.size ≤ 1000000) (hK : keepT ls [] = K)
    (hO : Calls Tryz.prog 32 #[.pointer (some ⟨b, 0, none⟩), .string p] w fun r w1 => ∃ o c, r = .returned (.tuple #[.slice o xss.length c, .int .i64 0]) ∧ In w0 (oList (.slice o xss.length c) xss :: oRef room b S1 :: l) w1)
    (hEq : K.length = xss.length → ∀ sb x y w', In w0 (oStoreR sb b p K :: x :: y :: oRef room b S1 :: l) w' → Q (.returned (.tuple #[.pointer (some ⟨sb, 0, none⟩), .int .i64 0])) w')
    (hLt : K.length < xss.length → ∀ sb ol cl o c vals w3, In w0 (oStoreR sb b p K :: oKept (.slice o K.length c) (vals.take K.length) :: oVals (.slice ol xss.length cl) vals xss :: oRef room b S1 :: l) w3 → ∃ ca,
      (Calls Tryz.prog 33 #[.pointer (some ⟨b, 0, none⟩), .string p, .slice o K.length c] w3 fun r w' => r = .returned (.int .i64 ca) ∧ (ca = 0 → Q (.returned (.tuple #[.pointer (some ⟨sb, 0, none⟩), .int .i64 0])) w') ∧ (ca ≠ 0 → Q (.returned (.tuple #[.pointer none, .int .i64 ca])) w'))) :
    Calls Tryz.prog 13 #[.pointer (some ⟨b, 0, none⟩), .string p] w Q := by
  have HO := Lib.hid hO
  have HEq := Lib.hid hEq
  have HLt := Lib.hid hLt
  have HZ := Lib.hid hxz
  have HK0 := Lib.hid hK
  have HRaw := Lib.hid hraw
  have HXL := Lib.hid hxl
  clear hO hEq hLt hxz hK hraw hxl
  go_enter Tryz.func13, Tryz.ntmps13
  go_wp2_with fail
  with_reducible refine HO.out.mono ?_
  rintro e w1 ⟨ol, cl, rfl, h1⟩
  obtain ⟨vals, h2⟩ := h1.vals
  have h3 := h2.newRef b p
  clear h1 h2 HO
  go_wp2_with fail
  go_loopw [9, 10] (fun kv i wr => ∃ (k : Nat) (acc : List BS) (ko : Option Addr) (kc : Nat), k ≤ xss.length ∧ i = .int .i64 k ∧ kv = .slice ko k kc ∧ Hid (keepT (ls.drop k) acc = K ∧ acc.length = k) ∧
    In w0 (oStoreR w1.heap.size b p acc :: oKept (.slice ko k kc) (vals.take k) :: oVals (.slice ol xss.length cl) vals xss :: oRef room b S1 :: l) wr) (fun _ i _ => xss.length - (intOf i).toNat)
  case atStart => exact ⟨0, [], none, 0, Nat.zero_le _, rfl, rfl, ⟨HK0.out, rfl⟩, h3⟩
  case round =>
    clear h3 HK0
    obtain ⟨k, acc, ko, kc, hk, rfl, rfl, HK, hI⟩ := hrel
    by_cases hlt : k < xss.length
    · obtain ⟨bb, f, o, c, rfl, hcl, hval, hcells, hone⟩ := hI.rec (vals := vals) (xss := xss) (ol := ol) (cl := cl) (by simp) hlt
      have hkc : k < cl := by omega
      have hik : (k : Int) < (xss.length : Int) := by omega
      have hi0 : (0 : Int) ≤ (k : Int) := by omega
      have hat := raw_at hlt
      rw [HRaw.out] at hat
      have hZ := HZ.out xss[k] (List.getElem_mem hlt)
      have hlen1 : xss[k].length ≤ maxLen := hZ.1
      unfold maxLen at hlen1
      have hcell := hcells wr _ hI (by simp)
      by_cases hl1 : xss[k].length = 1
      · obtain ⟨x, hx⟩ := List.length_eq_one_iff.1 hl1
        obtain ⟨b2, f2, rfl, hc1, hcx⟩ := hone x hx
        have hxs : x.size ≤ 1000000 := hZ.2 x (by rw [hx]; simp)
        rw [hx] at hcell hat hval hcells
        replace hcell : wr.cell? ⟨bb, f + k, none⟩ = some (.slice (some ⟨b2, f2, none⟩) 1 c) := hcell
        replace hval : vals[k]? = some (.slice (some ⟨b2, f2, none⟩) 1 c) := hval
        replace hat : ls[k]? = some [x.data.toList] := hat
        have HF := Lib.hid (hI.rfind (sb := w1.heap.size) (b := b) (p := p) (L := acc) (by simp) (by have := HK.out.2; omega) x)
        have hc0 : 0 < c := by omega
        have hcc : 1 ≤ c := hc1
        clear hZ hlen1 hl1 hx hc1
        by_cases hm : x.data.toList ∈ acc
        · have hE : acc = K := by
            have := HK.out.1
            rw [keepT_get hat] at this
            simpa [keepT, hm] using this
          have hpos := find_pos.2 hm
          generalize findN acc x.data.toList = N at *
          have d1 : decide ((0 : Int) < (N : Int)) = true := by simp; omega
          clear hm hat
          have hAn : ∃ ca, Calls Tryz.prog 33 #[.pointer (some ⟨b, 0, none⟩), .string p, .slice ko k kc] wr fun r w' => r = .returned (.int .i64 ca) ∧ (ca = 0 → Q (.returned (.tuple #[.pointer (some ⟨w1.heap.size, 0, none⟩), .int .i64 0])) w') ∧ (ca ≠ 0 → Q (.returned (.tuple #[.pointer none, .int .i64 ca])) w') := by
            have hKk : K.length = k := by rw [← hE]; exact HK.out.2
            have := HLt.out (by omega) w1.heap.size _ cl ko kc vals wr (by rw [hKk, ← hE]; exact hI)
            rw [hKk] at this
            exact this
          obtain ⟨ca, hAn⟩ := hAn
          clear HEq HLt HZ HRaw HXL HK hI hE hone hcells hval hN9 hk hlt
          by_cases hca : ca = 0
          · have HAn := Lib.hid (hAn.mono fun r w' h => (⟨by rw [h.1, hca], h.2.1 hca⟩ : r = .returned (.int .i64 0) ∧ _))
            clear hAn hca
            go_wp2_with (first
              | (go_at_call 25; refine HF.out.mono ?_; rintro e w2 ⟨rfl, rfl⟩)
              | (go_at_call 33; refine HAn.out.mono ?_; rintro e w5 ⟨rfl, hq1⟩))
            exact hq1
          · have HAn := Lib.hid (hAn.mono fun r w' h => (⟨h.1, h.2.2 hca⟩ : r = .returned (.int .i64 ca) ∧ _))
            have e0 : (ca != 0) = true := by simp [hca]
            clear hAn hca
            go_wp2_with (first
              | (go_at_call 25; refine HF.out.mono ?_; rintro e w2 ⟨rfl, rfl⟩)
              | (go_at_call 33; refine HAn.out.mono ?_; rintro e w5 ⟨rfl, hq1⟩))
            exact hq1
        · rw [find_not hm] at HF
          have hkl : k < 1000000 := by omega
          obtain ⟨vo, vc, o6, c6, w6, o8, c8, w8, g2, g3, hrun6, g4, g5, h7, hrun8, h8⟩ := hI.keeps (by have := HK.out.2; omega) hval rfl hkl x
          rw [HK.out.2] at g2 g3 hrun6 g4 h7 hrun8
          have g7 := hcells _ _ h7 (by simp)
          have HK2 : Hid (keepT (ls.drop (k + 1)) (acc ++ [x.data.toList]) = K ∧ (acc ++ [x.data.toList]).length = k + 1) := by
            refine ⟨?_, by rw [List.length_append, HK.out.2]; rfl⟩
            have := HK.out.1
            rw [keepT_get hat] at this
            simpa [keepT, hm] using this
          have g2d : wr.drew.cell? ⟨w1.heap.size, 2, none⟩ = some (.slice vo k vc) := g2
          have g3d : (wr.alloc (.cells #[.string x] 9)).drew.cell? ⟨w1.heap.size, 2, none⟩ = some (.slice vo k vc) := g3
          have hcelld : wr.drew.cell? ⟨bb, f + k, none⟩ = some (.slice (some ⟨b2, f2, none⟩) 1 c) := hcell
          have hcxd : wr.drew.cell? ⟨b2, f2, none⟩ = some (.string x) := hcx
          have HR := Lib.hid h8
          clear hcells hone hat hval hm h8 h7 hI HK
          go_wp2_with (go_at_call 25; refine HF.out.mono ?_; rintro e w2 ⟨rfl, rfl⟩)
          go_region_law (refine step_append_run rfl (.tmp 52) (.tmp 59) 39 rfl _ _ _ w6 (by simp [Act.eval]) (by simp [Act.eval]) hrun6 ?_)
          all_goals (
            go_wp2_with (at_builtin; refine wpList_append_eq rfl _ _ 63 rfl (.slice ko k kc) (.slice (some ⟨w6.heap.size, 0, none⟩) 1 1) (.slice o8 (k + 1) c8) w8 rfl rfl hrun8 ?_)
            go_roundw
            case rel => exact ⟨k + 1, _, _, _, hlt, by go_num, rfl, HK2, HR.out⟩
            case measure => simp [intOf]; omega)
      · have hE : acc = K := by
          have := HK.out.1
          rw [keepT_get hat, keepT_other (by unfold rawOf; rw [List.length_map]; exact hl1)] at this
          exact this
        have d1 : ((xss[k].length : Int) != 1) = true := by simp; omega
        obtain ⟨M, hM⟩ : ∃ M, M = xss[k].length := ⟨_, rfl⟩
        rw [← hM] at hcell d1 hlen1
        clear hZ hat hl1 hM
        have hAn : ∃ ca, Calls Tryz.prog 33 #[.pointer (some ⟨b, 0, none⟩), .string p, .slice ko k kc] wr fun r w' => r = .returned (.int .i64 ca) ∧ (ca = 0 → Q (.returned (.tuple #[.pointer (some ⟨w1.heap.size, 0, none⟩), .int .i64 0])) w') ∧ (ca ≠ 0 → Q (.returned (.tuple #[.pointer none, .int .i64 ca])) w') := by
          have hKk : K.length = k := by rw [← hE]; exact HK.out.2
          have := HLt.out (by omega) w1.heap.size _ cl ko kc vals wr (by rw [hKk, ← hE]; exact hI)
          rw [hKk] at this
          exact this
        obtain ⟨ca, hAn⟩ := hAn
        clear HEq HLt HZ HRaw HXL HK hI hE hone hcells hval hN9 hk hlt
        by_cases hca : ca = 0
        · have HAn := Lib.hid (hAn.mono fun r w' h => (⟨by rw [h.1, hca], h.2.1 hca⟩ : r = .returned (.int .i64 0) ∧ _))
          clear hAn hca
          go_wp2_with (go_at_call 33; refine HAn.out.mono ?_; rintro e w5 ⟨rfl, hq1⟩)
          exact hq1
        · have HAn := Lib.hid (hAn.mono fun r w' h => (⟨h.1, h.2.2 hca⟩ : r = .returned (.int .i64 ca) ∧ _))
          have e0 : (ca != 0) = true := by simp [hca]
          clear hAn hca
          go_wp2_with (go_at_call 33; refine HAn.out.mono ?_; rintro e w5 ⟨rfl, hq1⟩)
          exact hq1
    · have hE : acc = K := by
        have := HK.out.1
        rw [keepT_done (by rw [← HXL.out]; omega)] at this
        exact this
      have hKk : K.length = k := by rw [← hE]; exact HK.out.2
      have HQ := Lib.hid (HEq.out (by omega) w1.heap.size _ _ wr (by rw [← hE]; exact hI))
      have hkN : k = xss.length := by omega
      subst hkN
      clear HEq HLt HZ HRaw HXL HK hI hE hN9 hKk hlt
      go_wp2
      exact HQ.out

set_option maxRecDepth 100000 in
set_option maxHeartbeats 4000000 in
theorem In.rbopen (h : In w0 (oRef room b S :: l) w) (hg : Good room n S) (hn : n < 268435200) (p : ByteArray) (hp : p.size ≤ 1048000) (ht : ∀ q, (textOf S.now q).length ≤ 100000) :
    Calls Tryz.prog 13 #[.pointer (some ⟨b, 0, none⟩), .string p] w (OpenB w0 l (fun sb L => oStoreR sb b p L) (fun S => oRef room b S) (bOpen room S p.data.toList)) := by
  have hO := h.rjopen hg (by omega) p hp ht
  obtain ⟨s, hs, hls⟩ := told_lists (room := room) hg p.data.toList ht
  have hg1 := hg.jOpen p.data.toList
  unfold bOpen
  obtain ⟨R, hR⟩ : ∃ R, R = jOpen room S p.data.toList := ⟨_, rfl⟩
  rw [← hR] at hO hls hg1 ⊢
  obtain ⟨ls, cd, S1⟩ := R
  replace hls : ls = listsOf s := hls
  replace hg1 : Good room (n + 4) S1 := hg1
  have hcnt : ls.length ≤ 100000 := by rw [hls]; have := lists_count s; omega
  have hfit : ∀ x ∈ ls, Fit x := by rw [hls]; exact lists_fit s
  have hmod : Mod ls := by rw [hls]; exact mod_lines (by omega)
  clear hls hs hR
  show Calls _ _ _ _ (OpenB w0 l (fun sb L => oStoreR sb b p L) (fun S => oRef room b S) (if cd = 0 then if (keepsOf ls).length < ls.length then ((jAnew room S1 p.data.toList (single (keepsOf ls))).1, keepsOf ls, (jAnew room S1 p.data.toList (single (keepsOf ls))).2) else (0, keepsOf ls, S1) else (cd, [], S1)))
  obtain ⟨hk1, hk2, _⟩ := keeps_prefix ls
  obtain ⟨xss, hxss⟩ : ∃ xss, xss = LLtxt ls := ⟨_, rfl⟩
  have hraw : rawLL xss = ls := by rw [hxss, raw_txt]
  have hxl : xss.length = ls.length := by rw [← hraw, rawLL_len]
  have hxz : ∀ xs ∈ xss, xs.length ≤ maxLen ∧ ∀ x ∈ xs, x.size ≤ 1000000 := by rw [hxss]; exact fits_ok hfit
  by_cases hz : cd = 0
  · rw [if_pos hz]
    subst hz
    obtain ⟨K, hK⟩ : ∃ K, K = keepsOf ls := ⟨_, rfl⟩
    rw [← hK] at hk1 hk2 ⊢
    refine rbopen_walk (w0 := w0) (l := l) (room := room) (ls := ls) (xss := xss) (S1 := S1) (K := K) hxl hraw (by omega) hxz hK.symm ?_ ?_ ?_
    · rw [hxl, hxss]; exact hO
    · intro he sb x y w' h3
      rw [if_neg (by omega)]
      exact .inl ⟨rfl, sb, rfl, h3.second.tail.tail⟩
    · intro he sb ol cl o c vals w3 h3
      rw [if_pos (by omega)]
      refine ⟨(jAnew room S1 p.data.toList (single K)).1, ?_⟩
      have hrd := h3.someReads (v := .slice ol xss.length cl) (vals := vals) (xss := xss) (m := K.length) (vk := .slice o K.length c) (by simp) (by simp) (by omega)
      have hrw : rawLL (xss.take K.length) = single K := by rw [rawLL_take, hraw]; exact hk2
      have h4 : In w0 (oRef room b S1 :: oStoreR sb b p K :: l) w3 := h3.second.tail.tail.swap
      have := h4.rjanew hg1 (by omega) p hp _ _ hrd (by unfold maxLen; rw [List.length_take]; omega) (fun xs hm => hxz xs (List.mem_of_mem_take hm)) (by rw [rawLL_take, hraw]; exact mod_take hmod _)
      rw [hrw] at this
      refine this.mono fun r w' k => ⟨k.1, fun h0 => .inl ⟨h0, sb, rfl, k.2.swap⟩, fun h0 => .inr ⟨h0, rfl, k.2.swap.tail⟩⟩
  · rw [if_neg hz]
    have HE : Hid (∀ w' o c, In w0 (oList (.slice o ls.length c) (LLtxt ls) :: oRef room b S1 :: l) w' → OpenB w0 l (fun sb L => oStoreR sb b p L) (fun S => oRef room b S) (cd, [], S1) (.returned (.tuple #[.pointer none, .int .i64 cd])) w') :=
      fun w' o c h3 => .inr ⟨hz, rfl, h3.tail⟩
    have HO : Hid (Calls Tryz.prog 32 #[.pointer (some ⟨b, 0, none⟩), .string p] w fun r w1 => ∃ o c, r = .returned (.tuple #[.slice o ls.length c, .int .i64 cd]) ∧ In w0 (oList (.slice o ls.length c) (LLtxt ls) :: oRef room b S1 :: l) w1) := hO
    have e0 : (cd != 0) = true := by simp [hz]
    clear hO hxz hxl hraw hxss hk1 hk2 hmod hfit hg1 hg h hz
    generalize OpenB w0 l (fun sb L => oStoreR sb b p L) (fun S => oRef room b S) (cd, [], S1) = Q at *
    generalize ls.length = N at *
    go_enter Tryz.func13, Tryz.ntmps13
    go_wp2_with fail
    with_reducible refine HO.out.mono ?_
    rintro e w1 ⟨o, c, rfl, h1⟩
    go_wp2
    exact HE.out _ _ _ h1
end

end Go.Proofs.YtchnbnmajagpjaaGreatDoor
