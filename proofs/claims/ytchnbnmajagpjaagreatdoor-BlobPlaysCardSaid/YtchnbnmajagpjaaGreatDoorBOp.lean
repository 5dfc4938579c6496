/-
  The program's own store: Id, keepRight and Open. No condition.
-/
import Derived.Deep.RegionHeld3
import Derived.Deep.QuietTactic
import Derived.Deep.DeepCutAuto
import Derived.Deep.CutBlock
import Derived.BigQuiet
import Derived.Test.YtchnbnmajagpjaaGreatDoorBSt
namespace Go.Proofs.YtchnbnmajagpjaaGreatDoor
open Go.RowKit Go.Shelf Go.Maps

/-! ### what an open tells: no program -/
theorem lists_none : listsOf [] = [] := by
  have := lists_count []
  exact List.eq_nil_of_length_eq_zero (by simpa using this)
theorem told_lists {room : Int} {n : Nat} {S : St} (hg : Good room n S) (p : BS) {M : Nat} (ht : ∀ q, (textOf S.now q).length ≤ M) : ∃ s : BS, s.length ≤ M ∧ (jOpen room S p).1 = listsOf s := by
  unfold jOpen
  have e : textOf (opR S (besideL p)).2.now p = textOf S.now p := by rw [opR_now]; exact text_drp_other hg.files.srt (beside_ne p)
  rw [e]
  split
  · split
    · exact ⟨_, ht p, rfl⟩
    · split
      · exact ⟨_, ht p, rfl⟩
      · exact ⟨[], by simp, lists_none.symm⟩
  · exact ⟨[], by simp, lists_none.symm⟩
theorem mod_take {ls : LL} (h : Mod ls) (m : Nat) : Mod (ls.take m) := fun k hk => by
  rw [List.take_take] at hk ⊢
  exact h _ hk
theorem keepT_get {ls : LL} {k : Nat} {x : List BS} (h : ls[k]? = some x) (acc : List BS) : keepT (ls.drop k) acc = keepT (x :: ls.drop (k + 1)) acc := by
  have hk := (List.getElem?_eq_some_iff.1 h).1
  rw [List.drop_eq_getElem_cons hk, (List.getElem?_eq_some_iff.1 h).2]
theorem keepT_done {ls : LL} {k : Nat} (h : ls.length ≤ k) (acc : List BS) : keepT (ls.drop k) acc = acc := by rw [List.drop_eq_nil_of_le h]; rfl
theorem rawLL_take (xss : List (List ByteArray)) (m : Nat) : rawLL (xss.take m) = (rawLL xss).take m := by unfold rawLL; rw [List.map_take]
theorem rawLL_len (xss : List (List ByteArray)) : (rawLL xss).length = xss.length := by unfold rawLL; rw [List.length_map]
/-- What Open leaves: a store, and the tree; or the error, and the tree. -/
def OpenB (w0 : World) (l : List Own) (store : Nat → List BS → Own) (tree : St → Own) (R : Int × (List BS × St)) (r : Ending) (w' : World) : Prop :=
  (R.1 = 0 ∧ ∃ sb, r = .returned (.tuple #[.pointer (some ⟨sb, 0, none⟩), .int .i64 0]) ∧ In w0 (store sb R.2.1 :: tree R.2.2 :: l) w') ∨
  (R.1 ≠ 0 ∧ r = .returned (.tuple #[.pointer none, .int .i64 R.1]) ∧ In w0 (tree R.2.2 :: l) w')

section
variable {w0 w : World} {l : List Own} {room : Int} {sb bt b n : Nat} {p : ByteArray} {v : Value} {L : List BS} {S : St}
set_option maxRecDepth 100000 in
set_option maxHeartbeats 4000000 in
theorem In.bid (h : In w0 (oStore sb b p L :: oTree room b S :: l) w) (hg : Good room n S) (hn : n < 268435400) (hp : p.size ≤ 1048000) (hL : L.length < 1000000) (t : ByteArray) (ht : t.size ≤ 1000000) :
    Calls Tryz.prog 15 #[.pointer (some ⟨sb, 0, none⟩), .string t] w fun r w' => r = .returned (.tuple #[.int .i64 (bId room S p.data.toList L t.data.toList).1.1, .int .i64 (bId room S p.data.toList L t.data.toList).1.2]) ∧
      In w0 (oStore sb b p (bId room S p.data.toList L t.data.toList).2.1 :: oTree room b (bId room S p.data.toList L t.data.toList).2.2 :: l) w' := by
  have h0 := h
  have hF := h.bfind (sb := sb) (bt := b) (p := p) (L := L) (by simp) t (by unfold maxLen; omega)
  unfold bId
  by_cases hm : t.data.toList ∈ L
  · rw [if_pos hm]
    have hpos := find_pos.2 hm
    have HF := Lib.hid hF
    show Calls _ _ _ _ fun r w' => r = .returned (.tuple #[.int .i64 (findN L t.data.toList : Nat), .int .i64 0]) ∧ In w0 (oStore sb b p L :: oTree room b S :: l) w'
    generalize findN L t.data.toList = N at *
    have d1 : ((N : Int) != 0) = true := by simp; omega
    clear hF hm hg h
    go_enter Tryz.func15, Tryz.ntmps15
    go_wp2_with (go_at_call 24; refine HF.out.mono ?_; rintro e w2 ⟨rfl, rfl⟩)
    go_ret2
    exact ⟨rfl, h0⟩
  · rw [if_neg hm]
    rw [find_not hm] at hF
    have HF := Lib.hid hF
    obtain ⟨v, m, h1⟩ := h.store
    have hba : Below w.heap.size w (w.alloc (.cells #[.string t] 9)).drew := below_drew ((Below.refl _ w).alloc (Nat.le_refl _) _)
    have hra : ReadsO (w.alloc (.cells #[.string t] 9)).drew (w.alloc (.cells #[.string t] 9)).drew.heap.size (.slice (some ⟨w.heap.size, 0, none⟩) 1 1) [t] := (built_one_s w t).below (below_drew (Below.refl _ _)) (Nat.le_refl _)
    have hA := (h.below hba).swap.jadd hg hn p hp _ [t] hra ⟨by show 1 ≤ maxLen; decide, by intro x hx; simp at hx; rw [hx]; exact ht⟩
    rw [show rawOf [t] = [t.data.toList] from rfl] at hA
    obtain ⟨cd, hcd⟩ : ∃ cd, cd = (jAdd room S p.data.toList [t.data.toList]).1 := ⟨_, rfl⟩
    obtain ⟨S1, hS1⟩ : ∃ S1, S1 = (jAdd room S p.data.toList [t.data.toList]).2 := ⟨_, rfl⟩
    rw [← hcd, ← hS1] at hA ⊢
    have HA := Lib.hid hA
    obtain ⟨z0, z1, _⟩ := h1.cellsP (sb := sb) (bt := b) (p := p) (v := v) (m := m) (by simp)
    obtain ⟨y0, y1, _⟩ := (h1.below (below_drew (Below.refl _ _))).cellsP (sb := sb) (bt := b) (p := p) (v := v) (m := m) (by simp)
    obtain ⟨x0, x1, _⟩ := (h1.below hba).cellsP (sb := sb) (bt := b) (p := p) (v := v) (m := m) (by simp)
    have x0' : (w.alloc (.cells #[.string t] 9)).cell? ⟨sb, 0, none⟩ = some (.pointer (some ⟨b, 0, none⟩)) := x0
    have x1' : (w.alloc (.cells #[.string t] 9)).cell? ⟨sb, 1, none⟩ = some (.string p) := x1
    have HC : Hid (∀ w3, In w0 (oTree room b S1 :: oStore sb b p L :: l) w3 → ∃ v3, w3.cell? ⟨sb, 0, none⟩ = some (.pointer (some ⟨b, 0, none⟩)) ∧ w3.cell? ⟨sb, 1, none⟩ = some (.string p) ∧ w3.cell? ⟨sb, 2, none⟩ = some v3) := fun w3 h3 => by
      obtain ⟨v3, m3, h4⟩ := h3.swap.store
      obtain ⟨n0, n1, n2, _⟩ := h4.cellsP (sb := sb) (bt := b) (p := p) (v := v3) (m := m3) (by simp)
      exact ⟨v3, n0, n1, n2⟩
    by_cases hz : cd = 0
    · rw [if_pos hz]
      subst hz
      show Calls _ _ _ _ fun r w' => r = .returned (.tuple #[.int .i64 ((L.length : Int) + 1), .int .i64 0]) ∧ In w0 (oStore sb b p (L ++ [t.data.toList]) :: oTree room b S1 :: l) w'
      have HK : Hid (∀ w3, In w0 (oTree room b S1 :: oStore sb b p L :: l) w3 → Calls Tryz.prog 39 #[.pointer (some ⟨sb, 0, none⟩), .string t] w3 fun r w' => r = .returned (.tuple #[]) ∧ In w0 (oStore sb b p (L ++ [t.data.toList]) :: oTree room b S1 :: l) w') :=
        fun w3 h3 => h3.swap.bkeep hL t (by unfold maxLen; omega) hm
      have HN : Hid (∀ w3, In w0 (oStore sb b p (L ++ [t.data.toList]) :: oTree room b S1 :: l) w3 → Calls Tryz.prog 23 #[.pointer (some ⟨sb, 0, none⟩)] w3 fun e w' => e = .returned (.int .i64 ((L.length : Int) + 1)) ∧ w3 = w') := fun w3 h3 => by
        have := h3.blen (sb := sb) (bt := b) (p := p) (L := L ++ [t.data.toList]) (by simp)
        rw [show ((L ++ [t.data.toList]).length : Int) = (L.length : Int) + 1 by rw [List.length_append]; rfl] at this
        exact this
      clear hcd hS1 hA hra hba h1 h h0 hF hm hg
      go_enter Tryz.func15, Tryz.ntmps15
      go_wp2_with (go_at_call 24; refine HF.out.mono ?_; rintro e w2 ⟨rfl, rfl⟩)
      go_region_held3 (fun W => W.cell? ⟨sb, 0, none⟩ = some (.pointer (some ⟨b, 0, none⟩)) ∧ W.cell? ⟨sb, 1, none⟩ = some (.string p))
        (first | exact ⟨by assumption, by assumption⟩)
        (first | (go_at_call 19; refine HA.out.mono ?_; rintro e w3 ⟨rfl, h3⟩; obtain ⟨v3, n0, n1, _⟩ := HC.out _ h3))
      go_wp2_with (first
        | (go_at_call 39; refine (HK.out _ h3).mono ?_; rintro e w4 ⟨rfl, h4⟩)
        | (go_at_call 23; refine (HN.out _ h4).mono ?_; rintro e w5 ⟨rfl, rfl⟩))
      go_ret2
      exact ⟨rfl, h4⟩
    · rw [if_neg hz]
      have e0 : (cd != 0) = true := by simpa using hz
      clear hcd hS1 hA hra hba h1 h h0 hF hm hg hz
      go_enter Tryz.func15, Tryz.ntmps15
      go_wp2_with (go_at_call 24; refine HF.out.mono ?_; rintro e w2 ⟨rfl, rfl⟩)
      go_region_held3 (fun W => W.cell? ⟨sb, 0, none⟩ = some (.pointer (some ⟨b, 0, none⟩)) ∧ W.cell? ⟨sb, 1, none⟩ = some (.string p))
        (first | exact ⟨by assumption, by assumption⟩)
        (first | (go_at_call 19; refine HA.out.mono ?_; rintro e w3 ⟨rfl, h3⟩; obtain ⟨v3, n0, n1, _⟩ := HC.out _ h3))
      go_wp2
      go_ret2
      exact ⟨rfl, h3.swap⟩

set_option maxRecDepth 100000 in
set_option maxHeartbeats 4000000 in
theorem In.bkeepRight {vl : Value} {vals : List Value} {xss : List (List ByteArray)} (h : In w0 (oStore sb bt p L :: oVals vl vals xss :: l) w) (hN : L.length + xss.length < 1000000) (hz : ∀ xs ∈ xss, xs.length ≤ maxLen ∧ ∀ x ∈ xs, x.size ≤ 1000000) :
    Calls Tryz.prog 30 #[.pointer (some ⟨sb, 0, none⟩), vl] w fun r w' => r = .returned (.tuple #[]) ∧ In w0 (oStore sb bt p (keepT (rawLL xss) L) :: oVals vl vals xss :: l) w' := by
  obtain ⟨ol, cl, rfl, _⟩ := h.valsAt (v := vl) (vals := vals) (xss := xss) (by simp)
  obtain ⟨K, hK⟩ : ∃ K, K = keepT (rawLL xss) L := ⟨_, rfl⟩
  rw [← hK]
  -- what lies where in a record
  have HR : Hid (∀ W acc k, In w0 (oStore sb bt p acc :: oVals (.slice ol xss.length cl) vals xss :: l) W → ∀ hk : k < xss.length, ∃ bb f o c, ol = some ⟨bb, f, none⟩ ∧ xss.length ≤ cl ∧ W.cell? ⟨bb, f + k, none⟩ = some (.slice o xss[k].length c) ∧
      ∀ x, xss[k] = [x] → ∃ b2 f2, o = some ⟨b2, f2, none⟩ ∧ 1 ≤ c ∧ W.cell? ⟨b2, f2, none⟩ = some (.string x)) := fun W acc k hW hk => by
    obtain ⟨o', c', hv', _, hx⟩ := hW.valsAt (v := .slice ol xss.length cl) (vals := vals) (xss := xss) (by simp)
    cases hv'
    obtain ⟨bb, f, u, q1, q2, q3, _, o, c, rfl, q5⟩ := hx k _ (List.getElem?_eq_getElem hk)
    refine ⟨bb, f, o, c, q1, q2, q3, fun x hx1 => ?_⟩
    obtain ⟨b2, f2, r1, _, r3, r4⟩ := q5 0 x (by rw [hx1]; rfl)
    rw [hx1] at r3
    exact ⟨b2, f2, r1, r3, r4⟩
  have HZ := Lib.hid hz
  have hKs := Lib.hid hK
  clear hz hK
  go_enter Tryz.func30, Tryz.ntmps30
  go_wp2_with fail
  go_loopw [8] (fun i wr => ∃ (k : Nat) (acc : List BS), k ≤ xss.length ∧ i = .int .i64 k ∧ Hid (keepT ((rawLL xss).drop k) acc = K ∧ acc.length ≤ L.length + k) ∧ In w0 (oStore sb bt p acc :: oVals (.slice ol xss.length cl) vals xss :: l) wr) (fun i _ => xss.length - (intOf i).toNat)
  case atStart => exact ⟨0, L, Nat.zero_le _, rfl, ⟨hKs.out.symm, by omega⟩, h⟩
  case round =>
    clear h
    obtain ⟨k, acc, hk, rfl, HK, hI⟩ := hrel
    by_cases hlt : k < xss.length
    · obtain ⟨bb, f, o, c, rfl, hcl, hcell, hone⟩ := HR.out wr acc k hI hlt
      have hkc : k < cl := by omega
      have hik : (k : Int) < (xss.length : Int) := by omega
      have hi0 : (0 : Int) ≤ (k : Int) := by omega
      have hat := raw_at hlt
      have hZ := HZ.out xss[k] (List.getElem_mem hlt)
      have hlen1 : xss[k].length ≤ maxLen := hZ.1
      unfold maxLen at hlen1
      by_cases hl1 : xss[k].length = 1
      · obtain ⟨x, hx⟩ := List.length_eq_one_iff.1 hl1
        obtain ⟨b2, f2, rfl, hc1, hcx⟩ := hone x hx
        have hxs : x.size ≤ 1000000 := hZ.2 x (by rw [hx]; simp)
        rw [hx] at hcell hat
        have hcell' : wr.cell? ⟨bb, f + k, none⟩ = some (.slice (some ⟨b2, f2, none⟩) 1 c) := hcell
        have hat' : (rawLL xss)[k]? = some [x.data.toList] := hat
        have HF := Lib.hid (hI.bfind (sb := sb) (bt := bt) (p := p) (L := acc) (by simp) x (by unfold maxLen; omega))
        have hc0 : 0 < c := by omega
        clear hone hZ hcell hat hlen1 hl1 hx hc1
        by_cases hm : x.data.toList ∈ acc
        · have HE : Hid (acc = K) := by
            have := HK.out.1
            rw [keepT_get hat'] at this
            show acc = K
            simpa [keepT, hm] using this
          have hpos := find_pos.2 hm
          generalize findN acc x.data.toList = N at *
          have d1 : ((N : Int) != 0) = true := by simp; omega
          clear hm hat' HK
          go_wp2_with (go_at_call 24; refine HF.out.mono ?_; rintro e w2 ⟨rfl, rfl⟩)
          ((try simp only [Exit.inBlock, Exit.then]); refine bodyPost_ret (results_none rfl _ _ _) rfl ?_)
          exact ⟨rfl, by rw [← HE.out]; exact hI⟩
        · rw [find_not hm] at HF
          have HK2 : Hid (keepT ((rawLL xss).drop (k + 1)) (acc ++ [x.data.toList]) = K ∧ (acc ++ [x.data.toList]).length ≤ L.length + (k + 1)) := by
            refine ⟨?_, by have := HK.out.2; rw [List.length_append]; simp; omega⟩
            have := HK.out.1
            rw [keepT_get hat'] at this
            simpa [keepT, hm] using this
          have HP := Lib.hid (hI.bkeep (by have := HK.out.2; omega) x (by unfold maxLen; omega) hm)
          clear hm hat' HK hI
          go_wp2_with (first
            | (go_at_call 24; refine HF.out.mono ?_; rintro e w2 ⟨rfl, rfl⟩)
            | (go_at_call 39; refine HP.out.mono ?_; rintro e w3 ⟨rfl, h3⟩))
          go_roundw
          case rel => exact ⟨k + 1, _, hlt, by go_num, HK2, h3⟩
          case measure => simp [intOf]; omega
      · have HE : Hid (acc = K) := by
          have := HK.out.1
          rw [keepT_get hat, keepT_other (by unfold rawOf; rw [List.length_map]; exact hl1)] at this
          exact this
        have d1 : ((xss[k].length : Int) != 1) = true := by simp; omega
        clear hone hZ hat HK hl1
        generalize xss[k].length = M at *
        go_wp2
        ((try simp only [Exit.inBlock, Exit.then]); refine bodyPost_ret (results_none rfl _ _ _) rfl ?_)
        exact ⟨rfl, by rw [← HE.out]; exact hI⟩
    · have HE : Hid (acc = K) := by
        have := HK.out.1
        rw [keepT_done (by rw [rawLL_len]; omega)] at this
        exact this
      go_wp2
      go_end0
      exact ⟨rfl, by rw [← HE.out]; exact hI⟩
end

end Go.Proofs.YtchnbnmajagpjaaGreatDoor
