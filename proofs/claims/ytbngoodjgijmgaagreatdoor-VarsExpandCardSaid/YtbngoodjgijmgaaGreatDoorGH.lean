/-
  A box of one cell that is stored into. No condition.
  What the document's own Set answers. No condition but sizes.
  What the statements' own rows answers: the variables, set one by one. No condition but sizes.
  Chapter 11's examples, at the head of all statements: what they come to. No condition.
-/
import Derived.BigQuiet
import Derived.Deep.RegionHeld3
import Derived.StillTailTactics
import Derived.Test.YtbngoodjgijmgaaGreatDoorGF
namespace Go.Proofs.YtbngoodjgijmgaaGreatDoor
open Go.RowKit Go.Shelf
attribute [local go_sem] Oper.semAt_some

theorem set_one {W : World} {b : Nat} {a0 : Value} {T : TypeId} (h : W.heap[b]? = some (.cells #[a0] T (0, 0))) (x : Value) : (W.setCell ⟨b, 0, none⟩ x).heap[b]? = some (.cells #[x] T (0, 0)) := by simp [World.setCell, Array.getElem?_modify, h]
theorem add_txt (a b : BT) : txt a ++ txt b = txt (a ++ b) := by
  apply ByteArray.ext
  show (txt a ++ txt b).data = _
  rw [ByteArray.data_append]
  simp [txt]

end Go.Proofs.YtbngoodjgijmgaaGreatDoor

namespace Go.Proofs.YtbngoodjgijmgaaGreatDoor
open Go.RowKit Go.Shelf
attribute [local go_sem] Oper.semAt_some

theorem set_cons (y : VarT) (r : EnvT) (x : VarT) : setT (y :: r) x = if y.1 = x.1 then x :: r else if x.1 < y.1 then x :: y :: r else y :: setT r x := rfl
theorem set_app_lt {x : VarT} : ∀ (a b : EnvT), (∀ y ∈ a, y.1 < x.1) → setT (a ++ b) x = a ++ setT b x
  | [], b, _ => rfl
  | y :: a, b, h => by
    have h1 : y.1 < x.1 := h y (by simp)
    have ih := set_app_lt a b fun z hz => h z (by simp [hz])
    rw [List.cons_append, set_cons, if_neg (fun e => bt_irrefl x.1 (by rw [e] at h1; exact h1)), if_neg (fun e => bt_irrefl y.1 (bt_trans h1 e)), ih]
    rfl
theorem set_app_ge {x : VarT} : ∀ (a b : EnvT), (∃ y ∈ a, ¬ y.1 < x.1) → setT (a ++ b) x = setT a x ++ b
  | [], _, h => by obtain ⟨y, hy, _⟩ := h; cases hy
  | y :: a, b, h => by
    rw [List.cons_append, set_cons, set_cons]
    by_cases h1 : y.1 = x.1
    · rw [if_pos h1, if_pos h1]; rfl
    · rw [if_neg h1, if_neg h1]
      by_cases h2 : x.1 < y.1
      · rw [if_pos h2, if_pos h2]; rfl
      · rw [if_neg h2, if_neg h2]
        have h3 : y.1 < x.1 := bt_tri h2 (fun e => h1 e.symm)
        have ih := set_app_ge a b (by
          obtain ⟨z, hz, hz2⟩ := h
          rcases List.mem_cons.1 hz with rfl | hz
          · exact absurd h3 hz2
          · exact ⟨z, hz, hz2⟩)
        rw [ih]; rfl
/-- What the document's loop has put, so far. -/
def RefAt (l : EnvT) (x : VarT) (i : Nat) (done : Bool) (acc : EnvT) : Prop :=
  if done = true then (acc = setT (l.take i) x ∧ ∃ y ∈ l.take i, ¬ y.1 < x.1) else (acc = l.take i ∧ ∀ y ∈ l.take i, y.1 < x.1)
theorem ref_start (l : EnvT) (x : VarT) : RefAt l x 0 false [] := by unfold RefAt; simp
theorem ref_done {l : EnvT} {x y : VarT} {i : Nat} {acc : EnvT} (hs : SrtT l) (h : RefAt l x i true acc) (hy : l[i]? = some y) : y.1 ≠ x.1 ∧ RefAt l x (i + 1) true (acc ++ [y]) := by
  unfold RefAt at h ⊢
  rw [if_pos rfl] at h ⊢
  obtain ⟨rfl, z, hz, hzx⟩ := h
  obtain ⟨h1, h2⟩ := List.getElem?_eq_some_iff.1 hy
  have ht : l.take (i + 1) = l.take i ++ [y] := by rw [List.take_succ_eq_append_getElem h1, h2]
  have hlt : z.1 < y.1 := by
    have hp : SrtT (l.take i ++ [y]) := by rw [← ht]; exact List.Pairwise.sublist (List.take_sublist _ _) hs
    exact (List.pairwise_append.1 hp).2.2 z hz y (by simp)
  refine ⟨fun e => hzx (e ▸ hlt), ?_, z, by rw [ht]; simp [hz], hzx⟩
  rw [ht, set_app_ge _ _ ⟨z, hz, hzx⟩]
theorem ref_less {l : EnvT} {x y : VarT} {i : Nat} {acc : EnvT} (h : RefAt l x i false acc) (hy : l[i]? = some y) (hlt : y.1 < x.1) : RefAt l x (i + 1) false (acc ++ [y]) := by
  unfold RefAt at h ⊢
  rw [if_neg (by simp)] at h ⊢
  obtain ⟨rfl, hz⟩ := h
  obtain ⟨h1, h2⟩ := List.getElem?_eq_some_iff.1 hy
  have ht : l.take (i + 1) = l.take i ++ [y] := by rw [List.take_succ_eq_append_getElem h1, h2]
  refine ⟨ht.symm, fun z hzz => ?_⟩
  rw [ht] at hzz
  rcases List.mem_append.1 hzz with h | h
  · exact hz z h
  · rw [List.mem_singleton.1 h]; exact hlt
theorem ref_same {l : EnvT} {x y : VarT} {i : Nat} {acc : EnvT} (h : RefAt l x i false acc) (hy : l[i]? = some y) (he : y.1 = x.1) : RefAt l x (i + 1) true (acc ++ [x]) := by
  unfold RefAt at h ⊢
  rw [if_neg (by simp)] at h
  rw [if_pos rfl]
  obtain ⟨rfl, hz⟩ := h
  obtain ⟨h1, h2⟩ := List.getElem?_eq_some_iff.1 hy
  have ht : l.take (i + 1) = l.take i ++ [y] := by rw [List.take_succ_eq_append_getElem h1, h2]
  refine ⟨?_, y, by rw [ht]; simp, by rw [he]; exact bt_irrefl _⟩
  rw [ht, set_app_lt _ _ hz, set_cons, if_pos he]
theorem ref_more {l : EnvT} {x y : VarT} {i : Nat} {acc : EnvT} (h : RefAt l x i false acc) (hy : l[i]? = some y) (hlt : x.1 < y.1) : RefAt l x (i + 1) true (acc ++ [x] ++ [y]) := by
  unfold RefAt at h ⊢
  rw [if_neg (by simp)] at h
  rw [if_pos rfl]
  obtain ⟨rfl, hz⟩ := h
  obtain ⟨h1, h2⟩ := List.getElem?_eq_some_iff.1 hy
  have ht : l.take (i + 1) = l.take i ++ [y] := by rw [List.take_succ_eq_append_getElem h1, h2]
  refine ⟨?_, y, by rw [ht]; simp, fun e => bt_irrefl _ (bt_trans e hlt)⟩
  rw [ht, set_app_lt _ _ hz, set_cons, if_neg (fun e => bt_irrefl x.1 (by rw [e] at hlt; exact hlt)), if_pos hlt]
  simp
theorem ref_end {l : EnvT} {x : VarT} {i : Nat} {done : Bool} {acc : EnvT} (h : RefAt l x i done acc) (hi : l.length ≤ i) : setT l x = if done = true then acc else acc ++ [x] := by
  unfold RefAt at h
  rw [List.take_of_length_le hi] at h
  cases done with
  | true => rw [if_pos rfl] at h ⊢; exact h.1.symm
  | false =>
    rw [if_neg (by simp)] at h ⊢
    have := set_app_lt l [] h.2
    rw [List.append_nil] at this
    rw [this, h.1]; rfl
theorem ref_len {l : EnvT} {x : VarT} {i : Nat} {done : Bool} {acc : EnvT} (h : RefAt l x i done acc) : acc.length ≤ i + 1 := by
  unfold RefAt at h
  have := (set_len (l.take i) x).1
  split at h
  · rw [h.1]; have := List.length_take_le i l; omega
  · rw [h.1]; have := List.length_take_le i l; omega
abbrev OwnE (W : World) (base : Nat) (v : Value) (l : EnvT) : Prop := W.ownsRow base 39 3 v l.length (l.flatMap encV)
theorem ownE_slice {W : World} {base : Nat} {v : Value} {l : EnvT} (h : OwnE W base v l) : ∃ o c, v = .slice o l.length c := by
  rcases h.2 with ⟨hv, h0⟩ | ⟨g, cap, cur, hv, _⟩
  · exact ⟨none, 0, by rw [hv, h0]⟩
  · exact ⟨_, _, hv⟩
theorem ownE_env {W : World} {base : Nat} {v : Value} {l : EnvT} (h : OwnE W base v l) : EnvS W (fun b => base ≤ b) v l := by
  rcases h.2 with ⟨hv, h0⟩ | ⟨g, cap, cur, rfl, h1, h2, h3, h4, h5, h6⟩
  · exact .inl ⟨hv, List.length_eq_zero_iff.1 h0⟩
  · refine .inr ⟨g, cap, rfl, h1, (Array.getElem?_eq_some_iff.1 h2).1, h3, flat_cells fun j u hj => ?_⟩
    rw [Lib.cell_of_heap h2]
    rw [← h6, List.getElem?_take] at hj
    split at hj
    · simpa using hj
    · cases hj
theorem infoRefVar : (Tryz.prog.info? 39).map (fun i => (i.zero, i.size, i.bytes)) = some (some (.agg #[.string ⟨#[]⟩, .string ⟨#[]⟩, .bool false]), 3, 40) := by kernel_rfl
theorem run_append_ref {w : World} (base : Nat) (v : Value) (xs : EnvT) (y : VarT) (hown : OwnE w base v xs) (hl : xs.length ≤ 2000000) (hbase : base ≤ w.heap.size) (ty : TypeId) :
    ∃ o n c w', (Builtin.append_ #[26, 26] ty #[v, .slice (some ⟨w.heap.size, 0, none⟩) 1 1]).run Tryz.prog (w.alloc (.cells #[.string (txt y.1), .string (txt y.2.1), .bool y.2.2] 39)) = .ok (.slice o n c) w' ∧ OwnE w' base (.slice o n c) (xs ++ [y]) ∧ Below base w w' := by
  obtain ⟨i0, hi, hz0, hz1, hz2⟩ := info_parts infoRefVar
  have hn := World.alloc_heap_new w (.cells #[.string (txt y.1), .string (txt y.2.1), .bool y.2.2] 39)
  have h2 : OwnE (w.alloc (.cells #[.string (txt y.1), .string (txt y.2.1), .bool y.2.2] 39)) base v xs := World.ownsRow.alloc hown _
  obtain ⟨v', w', hrun, h3, h4, _⟩ := run_append_own (P := Tryz.prog) (w.alloc (.cells #[.string (txt y.1), .string (txt y.2.1), .bool y.2.2] 39)) base 26 ty 39 i0 _ 3 40 Tryz.underlying26 hi hz0 hz1 hz2 rfl (by decide) v xs.length _ h2 ⟨w.heap.size, 0, none⟩ 1 1 (encV y) rfl
    (by
      intro j u hj
      rw [Addr.add_lit, Lib.cell_of_heap hn]
      rcases j with _ | _ | _ | j
      · exact hj
      · exact hj
      · exact hj
      · simp [encV] at hj)
    (by
      intro u hu
      have := flat_one [y] u (by simpa using hu)
      exact this)
    (by unfold maxLen; omega) (by omega) (by simp; omega)
  have hown' : OwnE w' base v' (xs ++ [y]) := by
    unfold OwnE
    rw [List.length_append, List.flatMap_append]
    have e : [y].flatMap encV = encV y := by simp
    rw [e]
    exact h3
  have hB : Below base w w' := ((Below.refl base w).alloc hbase _).grown h4 (by simp; omega) (fun k hk => (h2.lt k hk).1)
  obtain ⟨o, c, rfl⟩ := ownE_slice hown'
  exact ⟨o, _, c, w', hrun, hown', hB⟩
/-- What lies in the document's three blocks. -/
structure RfsAt (w : World) (v : Value) (x : VarT) (l : EnvT) (W : World) : Prop where
  back : Below w.heap.size w W
  bv : W.heap[w.heap.size]? = some (.cells #[v] 28 (0, 0))
  bx : W.heap[w.heap.size + 1]? = some (.cells #[.string (txt x.1), .string (txt x.2.1), .bool x.2.2] 39 (0, 0))
  br : W.heap[w.heap.size + 1 + 1]? = some (.cells #[.slice none 0 0] 28 (0, 0))
  env : EnvS W (fun b => b < w.heap.size) v l
theorem RfsAt.later {w : World} {v : Value} {x : VarT} {l : EnvT} {W W' : World} (h : RfsAt w v x l W) (hb : Below (w.heap.size + 3) W W') : RfsAt w v x l W' := by
  have h1 := (Array.getElem?_eq_some_iff.1 h.br).1
  exact ⟨h.back.trans (hb.mono (by omega)), (hb.block _ (by omega)).trans h.bv, (hb.block _ (by omega)).trans h.bx, (hb.block _ (by omega)).trans h.br, h.env.turned (X := fun b => w.heap.size ≤ b) ⟨hb.os, hb.tape, hb.output, hb.size, fun k hk hn => hb.block k (by omega)⟩ (fun b hb h => by omega)⟩
theorem less_is (a b : BT) : Op.bytesLess (txt a).toList (txt b).toList = decide (a < b) := by
  rw [Lib.toList_data, Lib.toList_data, txt_data, txt_data, bytesLess_eq]
theorem name_ne {a b : BT} (h : a ≠ b) : ((txt a).toList == (txt b).toList) = false := by rw [txt_toL, txt_toL]; simpa using h
theorem name_is {a b : BT} (h : a = b) : ((txt a).toList == (txt b).toList) = true := by rw [txt_toL, txt_toL, h]; simp
set_option maxRecDepth 100000 in
set_option maxHeartbeats 4000000 in
theorem rset_any (Q : Nat → Prop) (v : Value) (l : EnvT) (x : VarT) (w : World) (h : EnvS w Q v l) (hl : l.length ≤ 999999) (hs : SrtT l) :
    Calls Tryz.prog 22 #[.agg #[v], aggV x] w (SetPost l x w) := by
  have hb2 := below_two w (.cells #[v] 28) (.cells #[.string (txt x.1), .string (txt x.2.1), .bool x.2.2] 39)
  have hb3 := hb2.alloc (by simp; omega) (.cells #[.slice none 0 0] 28)
  have hA0 : RfsAt w v x l (((w.alloc (.cells #[v] 28)).alloc (.cells #[.string (txt x.1), .string (txt x.2.1), .bool x.2.2] 39)).alloc (.cells #[.slice none 0 0] 28)) := by
    refine ⟨hb3, ?_, ?_, ?_, (h.wider (fun b hb _ => hb)).below hb3⟩
    · exact (Below.heap_alloc _ _ _ (by simp; omega)).trans (heap_first _ _ _)
    · exact (Below.heap_alloc _ _ _ (by simp)).trans (heap_second _ _ _)
    · have := World.alloc_heap_new ((w.alloc (.cells #[v] 28)).alloc (.cells #[.string (txt x.1), .string (txt x.2.1), .bool x.2.2] 39)) (.cells #[.slice none 0 0] 28)
      simpa using this
  have HA0 := Lib.hid hA0
  have HS := Lib.hid hs
  obtain ⟨vo, vn, vc, rfl⟩ := h.slice
  obtain ⟨vn', rfl, hvc⟩ : ∃ k, vn = l.length ∧ l.length ≤ vc ∧ k = 0 := by
    rcases h with ⟨e, e2⟩ | ⟨b, c, e, _, _, hc, _⟩
    · cases e; subst e2; exact ⟨0, rfl, Nat.zero_le _, rfl⟩
    · cases e; exact ⟨0, rfl, hc, rfl⟩
  clear h hb2 hb3 hA0 hs
  unfold aggV
  go_enter Tryz.func22, Tryz.ntmps22
  go_wp2_with fail
  go_loopw [5, 6, 7] (fun ov dv iv wr => ∃ (i : Nat) (done : Bool) (acc : EnvT) (o : Option Addr) (n c : Nat), i ≤ l.length ∧ iv = .int .i64 i ∧ dv = .bool done ∧ ov = .slice o n c ∧ Hid (OwnE wr (w.heap.size + 3) (.slice o n c) acc) ∧ Hid (RfsAt w (.slice vo l.length vc) x l wr) ∧ Hid (RefAt l x i done acc)) (fun _ _ iv _ => l.length - (intOf iv).toNat)
  case atStart => exact ⟨0, false, [], none, 0, 0, Nat.zero_le _, rfl, rfl, rfl, World.ownsRow_nil _ _ _ _, HA0.out, ref_start l x⟩
  case round =>
    obtain ⟨i, done, acc, o, n, c, hi, rfl, rfl, rfl, HO, HA, HR⟩ := hrel
    clear HA0
    have HQ : Hid (∀ (acc : EnvT) (y : VarT), OwnE wr (w.heap.size + 3) (.slice o n c) acc → acc.length ≤ i + 1 → ∀ q, ∃ o' n' c' w', (Builtin.append_ #[26, 26] 26 #[.slice o n c, .slice (some ⟨wr.heap.size, 0, none⟩) 1 1]).run Tryz.prog ((wr.drewN q).alloc (.cells #[.string (txt y.1), .string (txt y.2.1), .bool y.2.2] 39)) = .ok (.slice o' n' c') w' ∧ OwnE w' (w.heap.size + 3) (.slice o' n' c') (acc ++ [y]) ∧ Below (w.heap.size + 3) wr w') := fun acc y ho ha q => by
      obtain ⟨o', n', c', w', h1, h2, h3⟩ := run_append_ref (w := wr.drewN q) (w.heap.size + 3) (.slice o n c) acc y ho (by omega) (by have := (Array.getElem?_eq_some_iff.1 HA.out.br).1; simp; omega) 26
      exact ⟨o', n', c', w', h1, h2, (show Below (w.heap.size + 3) wr (wr.drewN q) from below_drewN (Below.refl _ _) q).trans h3⟩
    by_cases hlt : i < l.length
    · obtain ⟨y, hy⟩ : ∃ y, l[i]? = some y := ⟨_, List.getElem?_eq_getElem hlt⟩
      rcases HA.out.env with ⟨_, h0⟩ | ⟨b, c9, e9, hbw, hbl, hlc, hcell⟩
      · rw [h0] at hlt; simp at hlt
      cases e9
      have k0 := hcell i y hy 0 _ rfl
      have k1 := hcell i y hy 1 _ rfl
      have k2 := hcell i y hy 2 _ rfl
      rw [Nat.add_zero] at k0
      obtain ⟨a0, _⟩ := one_cell HA.out.bv
      obtain ⟨x0, x1, x2, _⟩ := three_cells HA.out.bx
      have hil : (i : Int) < (l.length : Int) := by omega
      have hi0 : (0 : Int) ≤ (i : Int) := by omega
      have HY := Lib.hid hy
      clear hcell hy
      cases done with
      | true =>
        obtain ⟨hne, hR2⟩ := ref_done HS.out HR.out HY.out
        have e5 := name_ne hne
        go_wp2_with fail
        go_quiet (fail)
        revert nq; intro q1
        go_wp2_with fail
        go_quiet (fail)
        revert nq; intro q2
        obtain ⟨o3, n3, c3, w3, hrun, hown3, hb3⟩ := HQ.out acc y HO.out (ref_len HR.out) (q1 + q2)
        have HO3 := Lib.hid hown3
        have HA3 := Lib.hid (HA.out.later hb3)
        have HR3 := Lib.hid hR2
        clear hown3 hb3 hR2 hne
        go_wp2_with (at_builtin; refine wpList_append_eq rfl _ _ 26 rfl _ _ _ w3 rfl rfl hrun ?_)
        go_roundw
        case rel => exact ⟨i + 1, true, acc ++ [y], o3, n3, c3, hlt, by go_num, rfl, rfl, HO3, HA3, HR3⟩
        case measure => simp [intOf]; omega
      | false =>
        by_cases hyx : y.1 = x.1
        · have HR3 := Lib.hid (ref_same HR.out HY.out hyx)
          have e5 := name_is hyx
          have e6 : (Op.bytesLess (txt x.1).toList (txt y.1).toList || (txt x.1).toList == (txt y.1).toList) = true := by rw [name_is hyx.symm]; simp
          clear hyx
          go_wp2_with fail
          go_quiet (fail)
          revert nq; intro q1
          obtain ⟨o3, n3, c3, w3, hrun, hown3, hb3⟩ := HQ.out acc x HO.out (ref_len HR.out) q1
          have HO3 := Lib.hid hown3
          have HA3 := Lib.hid (HA.out.later hb3)
          have hbl3 : b < w3.heap.size := Nat.lt_of_lt_of_le hbl hb3.size
          have j0 := (hb3.cell (p := ⟨b, i * 3, none⟩) (by show b < w.heap.size + 3; omega)).trans k0
          obtain ⟨b0, _⟩ := one_cell HA3.out.bv
          obtain ⟨z0, z1, z2, _⟩ := three_cells HA3.out.bx
          clear hown3 hb3
          go_wp2_with (at_builtin; refine wpList_append_eq rfl _ _ 26 rfl _ _ _ w3 rfl rfl hrun ?_)
          go_quiet (fail)
          revert nq; intro q2
          go_wp2_with fail
          go_roundw
          case rel => exact ⟨i + 1, true, acc ++ [x], o3, n3, c3, hlt, by go_num, rfl, rfl, HO3.out, HA3.out.later (below_drewN (Below.refl _ _) _), HR3⟩
          case measure => simp [intOf]; omega
        have e5 := name_ne hyx
        by_cases hlx : x.1 < y.1
        · have HR3 := Lib.hid (ref_more HR.out HY.out hlx)
          have e6 : (Op.bytesLess (txt x.1).toList (txt y.1).toList || (txt x.1).toList == (txt y.1).toList) = true := by rw [less_is, decide_eq_true hlx]; rfl
          clear hyx hlx
          go_wp2_with fail
          go_quiet (fail)
          revert nq; intro q1
          obtain ⟨o3, n3, c3, w3, hrun, hown3, hb3⟩ := HQ.out acc x HO.out (ref_len HR.out) q1
          have HO3 := Lib.hid hown3
          have HA3 := Lib.hid (HA.out.later hb3)
          have j0 := (hb3.cell (p := ⟨b, i * 3, none⟩) (by show b < w.heap.size + 3; omega)).trans k0
          have j1 := (hb3.cell (p := ⟨b, i * 3 + 1, none⟩) (by show b < w.heap.size + 3; omega)).trans k1
          have j2 := (hb3.cell (p := ⟨b, i * 3 + 2, none⟩) (by show b < w.heap.size + 3; omega)).trans k2
          obtain ⟨b0, _⟩ := one_cell HA3.out.bv
          obtain ⟨z0, z1, z2, _⟩ := three_cells HA3.out.bx
          have HQ4 : Hid (∀ q, ∃ o n' c' w', (Builtin.append_ #[26, 26] 26 #[.slice o3 n3 c3, .slice (some ⟨w3.heap.size, 0, none⟩) 1 1]).run Tryz.prog ((w3.drewN q).alloc (.cells #[.string (txt y.1), .string (txt y.2.1), .bool y.2.2] 39)) = .ok (.slice o n' c') w' ∧ OwnE w' (w.heap.size + 3) (.slice o n' c') (acc ++ [x] ++ [y]) ∧ Below (w.heap.size + 3) w3 w') := fun q => by
            obtain ⟨o', n', c', w', h1, h2, h3⟩ := run_append_ref (w := w3.drewN q) (w.heap.size + 3) (.slice o3 n3 c3) (acc ++ [x]) y HO3.out (by have := ref_len HR.out; simp; omega) (by have := (Array.getElem?_eq_some_iff.1 HA3.out.br).1; simp; omega) 26
            exact ⟨o', n', c', w', h1, h2, (show Below (w.heap.size + 3) w3 (w3.drewN q) from below_drewN (Below.refl _ _) q).trans h3⟩
          clear hown3 hb3
          go_wp2_with (at_builtin; refine wpList_append_eq rfl _ _ 26 rfl _ _ _ w3 rfl rfl hrun ?_)
          go_quiet (fail)
          revert nq; intro q2
          obtain ⟨o4, n4, c4, w4, hrun4, hown4, hb4⟩ := HQ4.out q2
          have HO4 := Lib.hid hown4
          have HA4 := Lib.hid (HA3.out.later hb4)
          clear hown4 hb4
          go_wp2_with (at_builtin; refine wpList_append_eq rfl _ _ 26 rfl _ _ _ w4 rfl rfl hrun4 ?_)
          go_roundw
          case rel => exact ⟨i + 1, true, acc ++ [x] ++ [y], o4, n4, c4, hlt, by go_num, rfl, rfl, HO4, HA4, HR3⟩
          case measure => simp [intOf]; omega
        · have hl2 : y.1 < x.1 := bt_tri hlx (fun e => hyx e.symm)
          have HR3 := Lib.hid (ref_less HR.out HY.out hl2)
          have e6 : (Op.bytesLess (txt x.1).toList (txt y.1).toList || (txt x.1).toList == (txt y.1).toList) = false := by rw [less_is, decide_eq_false hlx, name_ne (fun e => hyx e.symm)]; rfl
          clear hyx hlx hl2
          go_wp2_with fail
          go_quiet (fail)
          revert nq; intro q1
          go_wp2_with fail
          go_quiet (fail)
          revert nq; intro q2
          obtain ⟨o3, n3, c3, w3, hrun, hown3, hb3⟩ := HQ.out acc y HO.out (ref_len HR.out) (q1 + q2)
          have HO3 := Lib.hid hown3
          have HA3 := Lib.hid (HA.out.later hb3)
          clear hown3 hb3
          go_wp2_with (at_builtin; refine wpList_append_eq rfl _ _ 26 rfl _ _ _ w3 rfl rfl hrun ?_)
          go_roundw
          case rel => exact ⟨i + 1, false, acc ++ [y], o3, n3, c3, hlt, by go_num, rfl, rfl, HO3, HA3, HR3⟩
          case measure => simp [intOf]; omega
    · have HE := Lib.hid (ref_end HR.out (by omega))
      have hil : ¬ (i : Int) < (l.length : Int) := by omega
      obtain ⟨a0, _⟩ := one_cell HA.out.bv
      obtain ⟨x0, x1, x2, _⟩ := three_cells HA.out.bx
      obtain ⟨_, f0⟩ := one_cell HA.out.br
      have HL : Hid (∀ (W : World) (o' : Option Addr) (n' c' : Nat), Below (w.heap.size + 3) wr W → OwnE W (w.heap.size + 3) (.slice o' n' c') (setT l x) →
          (W.setCell ⟨w.heap.size + 1 + 1, 0, none⟩ (.slice o' n' c')).heap[w.heap.size + 1 + 1]? = some (.cells #[.slice o' n' c'] 28 (0, 0)) ∧ SetPost l x w (.returned (.agg #[.slice o' n' c'])) (W.setCell ⟨w.heap.size + 1 + 1, 0, none⟩ (.slice o' n' c'))) := fun W o' n' c' hb ho => by
        have h' := HA.out.later hb
        refine ⟨set_one h'.br _, _, rfl, ?_, h'.back.setCell (p := ⟨w.heap.size + 1 + 1, 0, none⟩) (by show w.heap.size ≤ w.heap.size + 1 + 1; omega) _⟩
        exact ((ownE_env ho).turned (X := fun b => b = w.heap.size + 1 + 1) (Turned.setCell (X := fun b => b = w.heap.size + 1 + 1) _ ⟨w.heap.size + 1 + 1, 0, none⟩ _ rfl) (fun b hb h => by omega)).wider (fun b _ hb => by omega)
      cases done with
      | true =>
        have hE := HE.out
        rw [if_pos rfl] at hE
        obtain ⟨hh, hP⟩ := HL.out wr o n c (Below.refl _ _) (by rw [hE]; exact HO.out)
        have HP := Lib.hid hP
        have HH := Lib.hid hh
        clear hE HE hP hh HQ
        go_wp2_with fail
        have hh := HH.out
        have hP := HP.out
        generalize wr.setCell ⟨w.heap.size + 1 + 1, 0, none⟩ (.slice o n c) = w9 at hh hP ⊢
        obtain ⟨u0, _⟩ := one_cell hh
        exact bodyPost_ret (v := .agg #[.slice o n c]) (by simp [results, Tryz.results22, go_sem, u0]) rfl hP
      | false =>
        have hE := HE.out
        rw [if_neg (by simp)] at hE
        obtain ⟨o3, n3, c3, w3, hrun, hown3, hb3⟩ := HQ.out acc x HO.out (ref_len HR.out) 0
        have hrun' : (Builtin.append_ #[26, 26] 26 #[.slice o n c, .slice (some ⟨wr.heap.size, 0, none⟩) 1 1]).run Tryz.prog (wr.alloc (.cells #[.string (txt x.1), .string (txt x.2.1), .bool x.2.2] 39)) = .ok (.slice o3 n3 c3) w3 := hrun
        obtain ⟨hh, hP⟩ := HL.out w3 o3 n3 c3 hb3 (by rw [hE]; exact hown3)
        obtain ⟨_, g0⟩ := one_cell (HA.out.later hb3).br
        have HP := Lib.hid hP
        have HH := Lib.hid hh
        clear hE HE hP hh HQ hrun hown3 hb3
        go_wp2_with (at_builtin; refine wpList_append_eq rfl _ _ 26 rfl _ _ _ w3 rfl rfl hrun' ?_)
        have hh := HH.out
        have hP := HP.out
        generalize w3.setCell ⟨w.heap.size + 1 + 1, 0, none⟩ (.slice o3 n3 c3) = w9 at hh hP ⊢
        obtain ⟨u0, _⟩ := one_cell hh
        exact bodyPost_ret (v := .agg #[.slice o3 n3 c3]) (by simp [results, Tryz.results22, go_sem, u0]) rfl hP
end Go.Proofs.YtbngoodjgijmgaaGreatDoor

namespace Go.Proofs.YtbngoodjgijmgaaGreatDoor
open Go.RowKit Go.Shelf
attribute [local go_sem] Oper.semAt_some

def smallV (x : VarT) : Bool := decide (x.1.length ≤ 60) && decide (x.2.1.length ≤ 600)
def rowsOk (l : EnvT) : Bool := decide (l.length ≤ 30) && l.all smallV
def rowsE (l : EnvT) : EnvT := l.foldl setT []
theorem rows_snoc (l : EnvT) (x : VarT) : rowsE (l ++ [x]) = setT (rowsE l) x := by unfold rowsE; rw [List.foldl_append]; rfl
theorem rows_take {l : EnvT} {i : Nat} {x : VarT} (h : l[i]? = some x) : rowsE (l.take (i + 1)) = setT (rowsE (l.take i)) x := by
  obtain ⟨h1, h2⟩ := List.getElem?_eq_some_iff.1 h
  rw [List.take_succ_eq_append_getElem h1, h2, rows_snoc]
theorem rows_all : ∀ (l acc : EnvT), SrtT acc → SrtT (l.foldl setT acc) ∧ (l.foldl setT acc).length ≤ acc.length + l.length ∧ (∀ y ∈ l.foldl setT acc, y ∈ l ∨ y ∈ acc)
  | [], acc, h => ⟨h, Nat.le_refl _, fun y hy => .inr hy⟩
  | x :: l, acc, h => by
    obtain ⟨h1, h2, h3⟩ := rows_all l (setT acc x) (set_srt h)
    have := (set_len acc x).1
    refine ⟨h1, by simp only [List.length_cons]; exact Nat.le_trans h2 (by omega), fun y hy => ?_⟩
    rcases h3 y hy with h | h
    · exact .inl (by simp [h])
    · rcases set_mem h with rfl | h
      · exact .inl (by simp)
      · exact .inr h
theorem rows_srt (l : EnvT) : SrtT (rowsE l) := (rows_all l [] List.Pairwise.nil).1
theorem rows_len (l : EnvT) : (rowsE l).length ≤ l.length := by have h := (rows_all l [] List.Pairwise.nil).2.1; rw [List.length_nil, Nat.zero_add] at h; exact h
theorem rows_mem {l : EnvT} {y : VarT} (h : y ∈ rowsE l) : y ∈ l := by
  rcases (rows_all l [] List.Pairwise.nil).2.2 y h with h | h
  · exact h
  · cases h
theorem rows_envok {l : EnvT} (h : rowsOk l = true) : EnvOk (rowsE l) 21 := by
  unfold rowsOk at h
  rw [Bool.and_eq_true, List.all_eq_true] at h
  have h1 := of_decide_eq_true h.1
  have := rows_len l
  refine ⟨rows_srt l, by omega, fun x hx => ?_⟩
  have hs := h.2 x (rows_mem hx)
  unfold smallV at hs
  rw [Bool.and_eq_true] at hs
  have := of_decide_eq_true hs.1
  have := of_decide_eq_true hs.2
  omega
/-- A slice that is read as variables, wherever they lie. -/
def InV (W : World) (o : Option Addr) (c : Nat) (l : EnvT) : Prop :=
  ∀ j x, l[j]? = some x → ∃ b f, o = some ⟨b, f, none⟩ ∧ b < W.heap.size ∧ l.length ≤ c ∧ ∀ i u, (encV x)[i]? = some u → W.cell? ⟨b, f + j * 3 + i, none⟩ = some u
theorem InV.below {W W' : World} {B : Nat} {o : Option Addr} {c : Nat} {l : EnvT} (h : InV W o c l) (hb : Below B W W') (hB : W.heap.size ≤ B) : InV W' o c l := fun j x hj => by
  obtain ⟨b, f, h1, h2, h3, h4⟩ := h j x hj
  exact ⟨b, f, h1, Nat.lt_of_lt_of_le h2 hb.size, h3, fun i u hi => (hb.cell (p := ⟨b, f + j * 3 + i, none⟩) (by show b < B; omega)).trans (h4 i u hi)⟩
def RowsPost (l : EnvT) (w : World) (e : Ending) (w' : World) : Prop :=
  ∃ o m c o' m' c', e = .returned (.tuple #[.agg #[.slice o m c], .agg #[.slice o' m' c'], .bool (rowsOk l)]) ∧ Below w.heap.size w w' ∧
    (rowsOk l = true → EnvS w' (fun b => w.heap.size ≤ b) (.slice o m c) (rowsE l) ∧ EnvS w' (fun b => w.heap.size ≤ b) (.slice o' m' c') (rowsE l))
/-- What lies in the four blocks of rows. -/
structure RwAt (w : World) (l : EnvT) (i : Nat) (W : World) : Prop where
  back : Below w.heap.size w W
  r1 : W.heap[w.heap.size]? = some (.cells #[.slice none 0 0] 25 (0, 0))
  r2 : W.heap[w.heap.size + 1]? = some (.cells #[.slice none 0 0] 28 (0, 0))
  v1 : ∃ o m c, W.heap[w.heap.size + 1 + 1]? = some (.cells #[.slice o m c] 25 (0, 0)) ∧ EnvS W (fun b => w.heap.size + 4 ≤ b) (.slice o m c) (rowsE (l.take i))
  v2 : ∃ o m c, W.heap[w.heap.size + 1 + 1 + 1]? = some (.cells #[.slice o m c] 28 (0, 0)) ∧ EnvS W (fun b => w.heap.size + 4 ≤ b) (.slice o m c) (rowsE (l.take i))
theorem rw_start (w : World) (l : EnvT) : RwAt w l 0 ((((w.alloc (.cells #[.slice none 0 0] 25)).alloc (.cells #[.slice none 0 0] 28)).alloc (.cells #[.slice none 0 0] 25)).alloc (.cells #[.slice none 0 0] 28)) := by
  have h1 := heap_first w (.cells #[.slice none 0 0] 25) (.cells #[.slice none 0 0] 28)
  have h2 := heap_second w (.cells #[.slice none 0 0] 25) (.cells #[.slice none 0 0] 28)
  have hb := below_two w (.cells #[.slice none 0 0] 25) (.cells #[.slice none 0 0] 28)
  have hs : ((w.alloc (.cells #[.slice none 0 0] 25)).alloc (.cells #[.slice none 0 0] 28)).heap.size = w.heap.size + 1 + 1 := by simp
  generalize (w.alloc (.cells #[.slice none 0 0] 25)).alloc (.cells #[.slice none 0 0] 28) = W at h1 h2 hb hs ⊢
  have h3 := heap_first W (.cells #[.slice none 0 0] 25) (.cells #[.slice none 0 0] 28)
  have h4 := heap_second W (.cells #[.slice none 0 0] 25) (.cells #[.slice none 0 0] 28)
  have hb2 := below_two W (.cells #[.slice none 0 0] 25) (.cells #[.slice none 0 0] 28)
  rw [hs] at h3 h4
  exact ⟨hb.trans (hb2.mono hb.size), (hb2.block _ (by omega)).trans h1, (hb2.block _ (by omega)).trans h2, ⟨_, _, _, h3, EnvS.nil _ _⟩, ⟨_, _, _, h4, EnvS.nil _ _⟩⟩
theorem RwAt.one {w : World} {l : EnvT} {i : Nat} {W W' : World} {o : Option Addr} {m c : Nat} {env : EnvT} (h : RwAt w l i W) (hb : Below W.heap.size W W') (hE : EnvS W' (fun b => W.heap.size ≤ b) (.slice o m c) env) :
    Below w.heap.size w (W'.setCell ⟨w.heap.size + 1 + 1, 0, none⟩ (.slice o m c)) ∧ (W'.setCell ⟨w.heap.size + 1 + 1, 0, none⟩ (.slice o m c)).heap[w.heap.size]? = some (.cells #[.slice none 0 0] 25 (0, 0)) ∧
    (W'.setCell ⟨w.heap.size + 1 + 1, 0, none⟩ (.slice o m c)).heap[w.heap.size + 1]? = some (.cells #[.slice none 0 0] 28 (0, 0)) ∧
    (W'.setCell ⟨w.heap.size + 1 + 1, 0, none⟩ (.slice o m c)).heap[w.heap.size + 1 + 1]? = some (.cells #[.slice o m c] 25 (0, 0)) ∧ EnvS (W'.setCell ⟨w.heap.size + 1 + 1, 0, none⟩ (.slice o m c)) (fun b => w.heap.size + 4 ≤ b) (.slice o m c) env ∧
    ∃ o2 m2 c2, (W'.setCell ⟨w.heap.size + 1 + 1, 0, none⟩ (.slice o m c)).heap[w.heap.size + 1 + 1 + 1]? = some (.cells #[.slice o2 m2 c2] 28 (0, 0)) ∧ EnvS (W'.setCell ⟨w.heap.size + 1 + 1, 0, none⟩ (.slice o m c)) (fun b => w.heap.size + 4 ≤ b) (.slice o2 m2 c2) (rowsE (l.take i)) := by
  obtain ⟨o1, m1, c1, h1, e1⟩ := h.v1
  obtain ⟨o2, m2, c2, h2, e2⟩ := h.v2
  have hlt := (Array.getElem?_eq_some_iff.1 h2).1
  have hT : Turned (fun b => b = w.heap.size + 1 + 1) W' (W'.setCell ⟨w.heap.size + 1 + 1, 0, none⟩ (.slice o m c)) := Turned.setCell (X := fun b => b = w.heap.size + 1 + 1) _ ⟨w.heap.size + 1 + 1, 0, none⟩ _ rfl
  have hsz := hb.size
  refine ⟨(h.back.trans (hb.mono h.back.size)).setCell (p := ⟨w.heap.size + 1 + 1, 0, none⟩) (by show w.heap.size ≤ w.heap.size + 1 + 1; omega) _, ?_, ?_, set_one ((hb.block _ (by omega)).trans h1) _, ?_, o2, m2, c2, ?_, ?_⟩
  · exact (hT.block _ (by omega) (by omega)).trans ((hb.block _ (by omega)).trans h.r1)
  · exact (hT.block _ (by omega) (by omega)).trans ((hb.block _ (by omega)).trans h.r2)
  · exact (hE.turned hT (fun b hb h => by omega)).wider (fun b _ hb => by omega)
  · exact (hT.block _ (by omega) (by omega)).trans ((hb.block _ (by omega)).trans h2)
  · exact (e2.below hb).turned hT (fun b hb h => by omega)
/-- Behind both stores. -/
theorem RwAt.two {w : World} {l : EnvT} {i : Nat} {W W' : World} {o o1 : Option Addr} {m c m1 c1 : Nat} {env : EnvT} (hB : Below w.heap.size w W) (h1 : W.heap[w.heap.size]? = some (.cells #[.slice none 0 0] 25 (0, 0)))
    (h2 : W.heap[w.heap.size + 1]? = some (.cells #[.slice none 0 0] 28 (0, 0))) (h3 : W.heap[w.heap.size + 1 + 1]? = some (.cells #[.slice o1 m1 c1] 25 (0, 0))) (e3 : EnvS W (fun b => w.heap.size + 4 ≤ b) (.slice o1 m1 c1) (rowsE (l.take (i + 1))))
    {v0 : Value} (h4 : W.heap[w.heap.size + 1 + 1 + 1]? = some (.cells #[v0] 28 (0, 0))) (hb : Below W.heap.size W W') (hE : EnvS W' (fun b => W.heap.size ≤ b) (.slice o m c) env) (he : env = rowsE (l.take (i + 1))) :
    RwAt w l (i + 1) (W'.setCell ⟨w.heap.size + 1 + 1 + 1, 0, none⟩ (.slice o m c)) := by
  subst he
  have hlt := (Array.getElem?_eq_some_iff.1 h4).1
  have hT : Turned (fun b => b = w.heap.size + 1 + 1 + 1) W' (W'.setCell ⟨w.heap.size + 1 + 1 + 1, 0, none⟩ (.slice o m c)) := Turned.setCell (X := fun b => b = w.heap.size + 1 + 1 + 1) _ ⟨w.heap.size + 1 + 1 + 1, 0, none⟩ _ rfl
  have hsz := hb.size
  refine ⟨(hB.trans (hb.mono hB.size)).setCell (p := ⟨w.heap.size + 1 + 1 + 1, 0, none⟩) (by show w.heap.size ≤ w.heap.size + 1 + 1 + 1; omega) _, ?_, ?_, ⟨o1, m1, c1, ?_, ?_⟩, o, m, c, set_one ((hb.block _ hlt).trans h4) _, ?_⟩
  · exact (hT.block _ (by omega) (by omega)).trans ((hb.block _ (by omega)).trans h1)
  · exact (hT.block _ (by omega) (by omega)).trans ((hb.block _ (by omega)).trans h2)
  · exact (hT.block _ (by omega) (by omega)).trans ((hb.block _ (by omega)).trans h3)
  · exact (e3.below hb).turned hT (fun b hb h => by omega)
  · exact (hE.turned hT (fun b hb h => by omega)).wider (fun b _ hb => by omega)
/-- The end: both are told. -/
theorem RwAt.last {w : World} {l : EnvT} {i : Nat} {W : World} (h : RwAt w l i W) : ∃ o1 m1 c1 o2 m2 c2, W.heap[w.heap.size + 1 + 1]? = some (.cells #[.slice o1 m1 c1] 25 (0, 0)) ∧ W.heap[w.heap.size + 1 + 1 + 1]? = some (.cells #[.slice o2 m2 c2] 28 (0, 0)) ∧
    ∀ V, V = ((W.setCell ⟨w.heap.size, 0, none⟩ (.slice o1 m1 c1)).setCell ⟨w.heap.size + 1, 0, none⟩ (.slice o2 m2 c2)).drew → V.heap[w.heap.size]? = some (.cells #[.slice o1 m1 c1] 25 (0, 0)) ∧ V.heap[w.heap.size + 1]? = some (.cells #[.slice o2 m2 c2] 28 (0, 0)) ∧
      Below w.heap.size w V ∧ EnvS V (fun b => w.heap.size ≤ b) (.slice o1 m1 c1) (rowsE (l.take i)) ∧ EnvS V (fun b => w.heap.size ≤ b) (.slice o2 m2 c2) (rowsE (l.take i)) := by
  obtain ⟨o1, m1, c1, h1, e1⟩ := h.v1
  obtain ⟨o2, m2, c2, h2, e2⟩ := h.v2
  refine ⟨o1, m1, c1, o2, m2, c2, h1, h2, ?_⟩
  rintro V rfl
  have hT : Turned (fun b => b = w.heap.size ∨ b = w.heap.size + 1) W ((W.setCell ⟨w.heap.size, 0, none⟩ (.slice o1 m1 c1)).setCell ⟨w.heap.size + 1, 0, none⟩ (.slice o2 m2 c2)).drew :=
    ((Turned.setCell (X := fun b => b = w.heap.size ∨ b = w.heap.size + 1) _ ⟨w.heap.size, 0, none⟩ _ (.inl rfl)).trans (Turned.setCell (X := fun b => b = w.heap.size ∨ b = w.heap.size + 1) _ ⟨w.heap.size + 1, 0, none⟩ _ (.inr rfl))).trans (Turned.drew _ _)
  refine ⟨?_, ?_, h.back.trans (hT.below h.back.size (fun k hk => by rcases hk with h | h <;> omega)), (e1.turned hT (fun b hb h => by rcases h with h | h <;> omega)).wider (fun b _ hb => by omega), (e2.turned hT (fun b hb h => by rcases h with h | h <;> omega)).wider (fun b _ hb => by omega)⟩
  · exact (Below.heap_setCell _ _ _ _ (by show w.heap.size ≠ w.heap.size + 1; omega)).trans (set_one h.r1 _)
  · exact set_one ((Below.heap_setCell _ _ _ _ (by show w.heap.size + 1 ≠ w.heap.size; omega)).trans h.r2) _
theorem rows_bad {l : EnvT} {x : VarT} (hx : x ∈ l) (hs : ¬ smallV x = true) : rowsOk l = false := by
  unfold rowsOk
  have : l.all smallV = false := by
    rw [List.all_eq_false]
    exact ⟨x, hx, hs⟩
  rw [this, Bool.and_false]
set_option maxRecDepth 100000 in
set_option maxHeartbeats 4000000 in
theorem rows_any (ao : Option Addr) (n ac : Nat) (l : EnvT) (w : World) (hn : n = l.length) (h : InV w ao ac l) (hz : ∀ x ∈ l, x.1.length ≤ maxLen ∧ x.2.1.length ≤ maxLen) :
    Calls Tryz.prog 12 #[.slice ao n ac] w (RowsPost l w) := by
  have HA0 := Lib.hid (rw_start w l)
  have HI := Lib.hid h
  have HZ := Lib.hid hz
  have HN := Lib.hid hn
  have hNb : n ≤ 30 → l.length ≤ 30 := by omega
  clear h hz hn
  by_cases h30 : (30 : Int) < (n : Int)
  · have hk : rowsOk l = false := by
      unfold rowsOk
      rw [decide_eq_false (by have := HN.out; omega)]; rfl
    have HK := Lib.hid hk
    clear hk
    go_enter Tryz.func12, Tryz.ntmps12
    go_wp2_with fail
    generalize ((((w.alloc (.cells #[.slice none 0 0] 25)).alloc (.cells #[.slice none 0 0] 28)).alloc (.cells #[.slice none 0 0] 25)).alloc (.cells #[.slice none 0 0] 28)) = wr at HA0 ⊢
    obtain ⟨o1, m1, c1, o2, m2, c2, p1, p2, hV⟩ := HA0.out.last
    obtain ⟨y1, _⟩ := one_cell p1
    obtain ⟨y2, _⟩ := one_cell p2
    obtain ⟨_, g1⟩ := one_cell HA0.out.r1
    obtain ⟨_, g2⟩ := one_cell HA0.out.r2
    have HVV := Lib.hid hV
    clear hV p1 p2
    go_wp2_with fail
    go_region
    have HV2 := Lib.hid (HVV.out _ rfl)
    have gf2 : (wr.setCell ⟨w.heap.size, 0, none⟩ (.slice o1 m1 c1)).frozen? ⟨w.heap.size + 1, 0, none⟩ = false := (World.frozen?_setCell _ _ _ _).trans g2
    go_wp2_with fail
    obtain ⟨h1, h2, hb, hE1, hE2⟩ := HV2.out
    generalize ((wr.setCell ⟨w.heap.size, 0, none⟩ (.slice o1 m1 c1)).setCell ⟨w.heap.size + 1, 0, none⟩ (.slice o2 m2 c2)).drew = w9 at h1 h2 hb hE1 hE2 ⊢
    obtain ⟨u1, _⟩ := one_cell h1
    obtain ⟨u2, _⟩ := one_cell h2
    exact bodyPost_ret (v := .tuple #[.agg #[.slice o1 m1 c1], .agg #[.slice o2 m2 c2], .bool false]) (by simp [results, Tryz.results12, go_sem, u1, u2]) rfl ⟨_, _, _, _, _, _, by rw [HK.out], hb, fun h => absurd (HK.out.symm.trans h) (by simp)⟩
  have hn30 : n ≤ 30 := by omega
  go_enter Tryz.func12, Tryz.ntmps12
  go_wp2_with fail
  go_loopw [7] (fun iv wr => ∃ i : Nat, i ≤ n ∧ iv = .int .i64 i ∧ Hid (RwAt w l i wr) ∧ Hid ((l.take i).all smallV = true)) (fun iv _ => n - (intOf iv).toNat)
  case atStart => exact ⟨0, Nat.zero_le _, rfl, HA0, rfl⟩
  case round =>
    obtain ⟨i, hi, rfl, HA, HS⟩ := hrel
    clear HA0
    obtain ⟨o1, m1, c1, p1, e1⟩ := HA.out.v1
    obtain ⟨o2, m2, c2, p2, e2⟩ := HA.out.v2
    by_cases hlt : i < n
    · obtain ⟨x, hx⟩ : ∃ x, l[i]? = some x := ⟨_, List.getElem?_eq_getElem (by rw [← HN.out]; exact hlt)⟩
      obtain ⟨b, f, rfl, hbl, hbc, hcell⟩ := (HI.out.below HA.out.back (Nat.le_refl _)) i x hx
      rw [← HN.out] at hbc
      have k0 := hcell 0 _ rfl
      have k1 := hcell 1 _ rfl
      have k2 := hcell 2 _ rfl
      rw [Nat.add_zero] at k0
      obtain ⟨y1, f1⟩ := one_cell p1
      obtain ⟨y2, f2⟩ := one_cell p2
      have hil : (i : Int) < (n : Int) := by omega
      have hi0 : (0 : Int) ≤ (i : Int) := by omega
      have HX := Lib.hid hx
      have hxm := HZ.out x (List.mem_of_getElem? hx)
      have hz1 : (txt x.1).size = x.1.length := txt_size _
      have hz2 : (txt x.2.1).size = x.2.1.length := txt_size _
      clear hx hcell
      by_cases hs : smallV x = true
      · have hs' := hs
        unfold smallV at hs'
        rw [Bool.and_eq_true] at hs'
        have g1 := of_decide_eq_true hs'.1
        have g2 := of_decide_eq_true hs'.2
        have d1 : ¬ (60 : Int) < (x.1.length : Int) := by omega
        have d2 : ¬ (600 : Int) < (x.2.1.length : Int) := by omega
        clear hs'
        have hfit : (rowsE (l.take i)).length ≤ 999999 := by have := rows_len (l.take i); have := List.length_take_le i l; omega
        have HSet1 : Hid (Calls Tryz.prog 21 #[.agg #[.slice o1 m1 c1], .agg #[.string (txt x.1), .string (txt x.2.1), .bool x.2.2]] wr.drew fun e w' => ∃ o m c, e = .returned (.agg #[.slice o m c]) ∧ Below wr.heap.size wr w' ∧ EnvS w' (fun b => wr.heap.size ≤ b) (.slice o m c) (rowsE (l.take (i + 1)))) := by
          have h9 := set_any _ (.slice o1 m1 c1) (rowsE (l.take i)) x wr.drew e1 hfit (rows_srt _)
          refine h9.mono ?_
          rintro e w' ⟨v', rfl, hE, hb⟩
          obtain ⟨o, m, c, rfl⟩ := hE.slice
          rw [← rows_take HX.out] at hE
          exact ⟨o, m, c, rfl, (show Below wr.heap.size wr wr.drew from (Below.refl _ _).drew).trans hb, hE⟩
        have HP1 := Lib.hid p1
        have HI1 : Hid (∀ W, Below w.heap.size w W → InV W (some ⟨b, f, none⟩) ac l) := fun W hb => HI.out.below hb (Nat.le_refl _)
        have HA9 : Hid ((l.take (i + 1)).all smallV = true) := by
          show _ = _
          obtain ⟨q1, q2⟩ := List.getElem?_eq_some_iff.1 HX.out
          rw [List.take_succ_eq_append_getElem q1, q2, List.all_append, HS.out]
          simp [hs]
        clear p1 p2 e1 e2 y2 f2 HS hs
        go_wp2_with fail
        go_still_tail 5, (by kernel_rfl)
        change wpList _ _ _ _ _ wr.drew
        go_wp2_with fail
        refine HSet1.out.mono ?_
        rintro e w3 ⟨o3, m3, c3, rfl, hb3, hE3⟩
        obtain ⟨j1, j2⟩ := one_cell ((hb3.block _ (Array.getElem?_eq_some_iff.1 HP1.out).1).trans HP1.out)
        have HO := Lib.hid (HA.out.one hb3 hE3)
        clear HSet1 hb3 hE3
        go_wp2_with fail
        generalize w3.setCell ⟨w.heap.size + 1 + 1, 0, none⟩ (.slice o3 m3 c3) = w4 at HO ⊢
        obtain ⟨hB4, q1, q2, q3, eq3, o4, m4, c4, q4, eq4⟩ := HO.out
        obtain ⟨b', f', eb, hbl4, hbc4, hcell4⟩ := (HI1.out w4 hB4) i x HX.out
        cases eb
        have k0 := hcell4 0 _ rfl
        have k1 := hcell4 1 _ rfl
        have k2 := hcell4 2 _ rfl
        rw [Nat.add_zero] at k0
        obtain ⟨y4, f4⟩ := one_cell q4
        have HSet2 : Hid (Calls Tryz.prog 22 #[.agg #[.slice o4 m4 c4], .agg #[.string (txt x.1), .string (txt x.2.1), .bool x.2.2]] w4.drew fun e w' => ∃ o m c, e = .returned (.agg #[.slice o m c]) ∧ Below w4.heap.size w4 w' ∧ EnvS w' (fun b => w4.heap.size ≤ b) (.slice o m c) (rowsE (l.take (i + 1)))) := by
          have h9 := rset_any _ (.slice o4 m4 c4) (rowsE (l.take i)) x w4.drew eq4 hfit (rows_srt _)
          refine h9.mono ?_
          rintro e w' ⟨v', rfl, hE, hb⟩
          obtain ⟨o, m, c, rfl⟩ := hE.slice
          rw [← rows_take HX.out] at hE
          exact ⟨o, m, c, rfl, (show Below w4.heap.size w4 w4.drew from (Below.refl _ _).drew).trans hb, hE⟩
        have HQ4 := Lib.hid q4
        have HFin : Hid (∀ (W : World) (o m : _) (c : _), Below w4.heap.size w4 W → EnvS W (fun b => w4.heap.size ≤ b) (.slice o m c) (rowsE (l.take (i + 1))) → RwAt w l (i + 1) (W.setCell ⟨w.heap.size + 1 + 1 + 1, 0, none⟩ (.slice o m c))) := fun W o m c hb hE => RwAt.two hB4 q1 q2 q3 eq3 q4 hb hE rfl
        clear hcell4 q1 q2 q3 eq3 q4 eq4 hB4 HO
        go_wp2_with fail
        go_still_tail 17, (by kernel_rfl)
        change wpList _ _ _ _ _ w4.drew
        go_wp2_with fail
        refine HSet2.out.mono ?_
        rintro e w5 ⟨o5, m5, c5, rfl, hb5, hE5⟩
        obtain ⟨j1, j2⟩ := one_cell ((hb5.block _ (Array.getElem?_eq_some_iff.1 HQ4.out).1).trans HQ4.out)
        have HF5 := Lib.hid (HFin.out w5 o5 m5 c5 hb5 hE5)
        clear HSet2 hb5 hE5 HFin
        go_wp2_with fail
        generalize w5.setCell ⟨w.heap.size + 1 + 1 + 1, 0, none⟩ (.slice o5 m5 c5) = w6 at HF5 ⊢
        go_wp2_with fail
        go_roundw
        case rel => exact ⟨i + 1, hlt, by go_num, HF5, HA9⟩
        case measure => simp [intOf]; omega
      · have HK := Lib.hid (rows_bad (List.mem_of_getElem? HX.out) hs)
        have hs2 : ¬ smallV x = true := hs
        by_cases hg1 : x.1.length ≤ 60
        · have d1 : ¬ (60 : Int) < (x.1.length : Int) := by omega
          have d2 : (600 : Int) < (x.2.1.length : Int) := by
            have hh : ¬ x.2.1.length ≤ 600 := fun hg2 => hs (by unfold smallV; rw [decide_eq_true hg1, decide_eq_true hg2]; rfl)
            omega
          clear p1 p2 e1 e2 y1 y2 f1 f2 HS hs hs2
          obtain ⟨o1, m1, c1, o2, m2, c2, p1, p2, hV⟩ := HA.out.last
          obtain ⟨y1, _⟩ := one_cell p1
          obtain ⟨y2, _⟩ := one_cell p2
          obtain ⟨_, g1⟩ := one_cell HA.out.r1
          obtain ⟨_, g2⟩ := one_cell HA.out.r2
          have HVV := Lib.hid hV
          clear hV p1 p2
          go_wp2_with fail
          go_region
          have HV2 := Lib.hid (HVV.out _ rfl)
          have gf2 : (wr.setCell ⟨w.heap.size, 0, none⟩ (.slice o1 m1 c1)).frozen? ⟨w.heap.size + 1, 0, none⟩ = false := (World.frozen?_setCell _ _ _ _).trans g2
          go_wp2_with fail
          obtain ⟨h1, h2, hb, hE1, hE2⟩ := HV2.out
          generalize ((wr.setCell ⟨w.heap.size, 0, none⟩ (.slice o1 m1 c1)).setCell ⟨w.heap.size + 1, 0, none⟩ (.slice o2 m2 c2)).drew = w9 at h1 h2 hb hE1 hE2 ⊢
          obtain ⟨u1, _⟩ := one_cell h1
          obtain ⟨u2, _⟩ := one_cell h2
          exact bodyPost_ret (v := .tuple #[.agg #[.slice o1 m1 c1], .agg #[.slice o2 m2 c2], .bool false]) (by simp [results, Tryz.results12, go_sem, u1, u2]) rfl ⟨_, _, _, _, _, _, by rw [HK.out], hb, fun h => absurd (HK.out.symm.trans h) (by simp)⟩
        · have d1 : (60 : Int) < (x.1.length : Int) := by omega
          clear p1 p2 e1 e2 y1 y2 f1 f2 HS hs hs2
          obtain ⟨o1, m1, c1, o2, m2, c2, p1, p2, hV⟩ := HA.out.last
          obtain ⟨y1, _⟩ := one_cell p1
          obtain ⟨y2, _⟩ := one_cell p2
          obtain ⟨_, g1⟩ := one_cell HA.out.r1
          obtain ⟨_, g2⟩ := one_cell HA.out.r2
          have HVV := Lib.hid hV
          clear hV p1 p2
          go_wp2_with fail
          go_region
          have HV2 := Lib.hid (HVV.out _ rfl)
          have gf2 : (wr.setCell ⟨w.heap.size, 0, none⟩ (.slice o1 m1 c1)).frozen? ⟨w.heap.size + 1, 0, none⟩ = false := (World.frozen?_setCell _ _ _ _).trans g2
          go_wp2_with fail
          obtain ⟨h1, h2, hb, hE1, hE2⟩ := HV2.out
          generalize ((wr.setCell ⟨w.heap.size, 0, none⟩ (.slice o1 m1 c1)).setCell ⟨w.heap.size + 1, 0, none⟩ (.slice o2 m2 c2)).drew = w9 at h1 h2 hb hE1 hE2 ⊢
          obtain ⟨u1, _⟩ := one_cell h1
          obtain ⟨u2, _⟩ := one_cell h2
          exact bodyPost_ret (v := .tuple #[.agg #[.slice o1 m1 c1], .agg #[.slice o2 m2 c2], .bool false]) (by simp [results, Tryz.results12, go_sem, u1, u2]) rfl ⟨_, _, _, _, _, _, by rw [HK.out], hb, fun h => absurd (HK.out.symm.trans h) (by simp)⟩
    · have hin : i = n := by omega
      subst hin
      have htk : l.take i = l := List.take_of_length_le (by rw [HN.out]; exact Nat.le_refl _)
      have HK : Hid (rowsOk l = true) := by
        show _ = _
        have h8 := HS.out
        rw [htk] at h8
        unfold rowsOk
        rw [h8, decide_eq_true (hNb hn30)]; rfl
      have HTk := Lib.hid htk
      have hil : ¬ (i : Int) < (i : Int) := by omega
      clear p1 p2 e1 e2 HS htk
      obtain ⟨o1, m1, c1, o2, m2, c2, p1, p2, hV⟩ := HA.out.last
      obtain ⟨y1, _⟩ := one_cell p1
      obtain ⟨y2, _⟩ := one_cell p2
      obtain ⟨_, g1⟩ := one_cell HA.out.r1
      obtain ⟨_, g2⟩ := one_cell HA.out.r2
      have HVV := Lib.hid hV
      clear hV p1 p2
      go_wp2_with fail
      go_region
      have HV2 := Lib.hid (HVV.out _ rfl)
      have gf2 : (wr.setCell ⟨w.heap.size, 0, none⟩ (.slice o1 m1 c1)).frozen? ⟨w.heap.size + 1, 0, none⟩ = false := (World.frozen?_setCell _ _ _ _).trans g2
      go_wp2_with fail
      obtain ⟨h1, h2, hb, hE1, hE2⟩ := HV2.out
      generalize ((wr.setCell ⟨w.heap.size, 0, none⟩ (.slice o1 m1 c1)).setCell ⟨w.heap.size + 1, 0, none⟩ (.slice o2 m2 c2)).drew = w9 at h1 h2 hb hE1 hE2 ⊢
      obtain ⟨u1, _⟩ := one_cell h1
      obtain ⟨u2, _⟩ := one_cell h2
      exact bodyPost_ret (v := .tuple #[.agg #[.slice o1 m1 c1], .agg #[.slice o2 m2 c2], .bool true]) (by simp [results, Tryz.results12, go_sem, u1, u2]) rfl ⟨_, _, _, _, _, _, by rw [HK.out], hb, fun _ => by rw [HTk.out] at hE1 hE2; exact ⟨hE1, hE2⟩⟩
end Go.Proofs.YtbngoodjgijmgaaGreatDoor

namespace Go.Proofs.YtbngoodjgijmgaaGreatDoor
open Go.RowKit Go.Shelf
attribute [local go_sem] Oper.semAt_some

def shownL : EnvT := [([97], [120, 32, 36, 40, 98, 41], false), ([98], [121], true), ([115], [112, 46, 99, 32, 113, 46, 99], true), ([102], [36, 40, 50, 41, 36, 40, 49, 41], false)]
set_option maxRecDepth 100000 in
theorem shown_0 : (expandT (rowsE shownL) [36, 40, 97, 41, 32, 36, 98, 36, 36]).1 = [120, 32, 121, 32, 121, 36] := by decide +kernel
set_option maxRecDepth 100000 in
theorem shown_1 : (expandT (rowsE shownL) [36, 40, 115, 58, 46, 99, 61, 46, 111, 41, 32, 36, 40, 102, 111, 114, 101, 97, 99, 104, 32, 105, 44, 36, 40, 115, 41, 44, 60, 36, 40, 105, 41, 62, 41]).1 = [112, 46, 111, 32, 113, 46, 111, 32, 60, 112, 46, 99, 62, 32, 60, 113, 46, 99, 62] := by decide +kernel
set_option maxRecDepth 100000 in
theorem shown_2 : (expandT (rowsE shownL) [36, 40, 99, 97, 108, 108, 32, 102, 44, 97, 44, 98, 41]).1 = [98, 97] := by decide +kernel
set_option maxRecDepth 100000 in
theorem shown_3 : (expandT (rowsE shownL) [36, 40, 105, 102, 32, 44, 120, 44, 121, 41]).1 = [121] := by decide +kernel
abbrev shownW (w : World) : World := w.alloc (.cells #[.string ⟨#[97]⟩, .string ⟨#[120, 32, 36, 40, 98, 41]⟩, .bool false, .string ⟨#[98]⟩, .string ⟨#[121]⟩, .bool true, .string ⟨#[115]⟩, .string ⟨#[112, 46, 99, 32, 113, 46, 99]⟩, .bool true, .string ⟨#[102]⟩, .string ⟨#[36, 40, 50, 41, 36, 40, 49, 41]⟩, .bool false] 36)
theorem in_new (w : World) (l : EnvT) (cs : Array Value) (hc : cs.toList = l.flatMap encV) : InV (w.alloc (.cells cs 36)) (some ⟨w.heap.size, 0, none⟩) l.length l := fun j x hj => by
  have h := World.alloc_heap_new w (.cells cs 36)
  refine ⟨w.heap.size, 0, rfl, by simp, Nat.le_refl _, fun i u hi => ?_⟩
  rw [Nat.zero_add]
  refine flat_cells (W := w.alloc (.cells cs 36)) (b := w.heap.size) (l := l) (fun k v hk => ?_) j x hj i u hi
  rw [Lib.cell_of_heap h, ← Array.getElem?_toList, hc]
  exact hk
set_option maxRecDepth 100000 in
set_option maxHeartbeats 4000000 in
theorem shown_any (w : World) (hst : Std w) : Calls Tryz.prog 11 #[] w fun e w' => e = .returned (.bool true) ∧ Below w.heap.size w w' := by
  have hb0 : Below w.heap.size w (shownW w) := (Below.refl _ w).alloc (Nat.le_refl _) _
  have hok : rowsOk shownL = true := by decide +kernel
  have hI : InV (shownW w) (some ⟨w.heap.size, 0, none⟩) 4 shownL := in_new w shownL _ rfl
  have hR := rows_any (some ⟨w.heap.size, 0, none⟩) 4 4 shownL (shownW w) rfl hI (fun x hx => by
    have h8 : ∀ x ∈ shownL, x.1.length ≤ 8 ∧ x.2.1.length ≤ 8 := by decide
    have := h8 x hx
    unfold maxLen; omega)
  have HR : Hid (Calls Tryz.prog 12 #[.slice (some ⟨w.heap.size, 0, none⟩) 4 4] (shownW w) fun e w' => ∃ o m c o' m' c', e = .returned (.tuple #[.agg #[.slice o m c], .agg #[.slice o' m' c'], .bool true]) ∧ Below w.heap.size w w' ∧ EnvS w' (fun _ => True) (.slice o m c) (rowsE shownL)) := by
    refine hR.mono ?_
    rintro e w' ⟨o, m, c, o', m', c', rfl, hb, hE⟩
    rw [hok]
    exact ⟨o, m, c, o', m', c', rfl, hb0.trans (hb.mono hb0.size), (hE hok).1.wider (fun _ _ _ => trivial)⟩
  have HO : Hid (∀ (s t : BT) (o : Option Addr) (m c : Nat) (W : World), Below w.heap.size w W → EnvS W (fun _ => True) (.slice o m c) (rowsE shownL) → s.length ≤ 100 → (expandT (rowsE shownL) s).1 = t → Calls Tryz.prog 20 #[.agg #[.slice o m c], .string (txt s)] W fun e w' => e = .returned (.string (txt t)) ∧ Below W.heap.size W w') := fun s t o m c W hb hE hs ht => by
    subst ht
    exact of_any _ o m c _ s W (hst.below hb) hE (rows_envok hok).less (by omega)
  clear hb0 hok hI hR hst
  go_enter Tryz.func11, Tryz.ntmps11
  go_wp2_with fail
  refine HR.out.mono ?_
  rintro e w1 ⟨o, m, c, o', m', c', rfl, hb1, hE1⟩
  have hB2 := (below_two w1 (.cells #[.slice o m c] 25) (.cells #[.slice o' m' c'] 28))
  obtain ⟨y0, _⟩ := one_cell (heap_first w1 (.cells #[.slice o m c] 25) (.cells #[.slice o' m' c'] 28))
  have hlt : w1.heap.size < ((w1.alloc (.cells #[.slice o m c] 25)).alloc (.cells #[.slice o' m' c'] 28)).heap.size := by simp; omega
  have H0 : Hid (∀ W, Below w1.heap.size w1 W → Calls Tryz.prog 20 #[.agg #[.slice o m c], .string ⟨#[36, 40, 97, 41, 32, 36, 98, 36, 36]⟩] W fun e w' => e = .returned (.string ⟨#[120, 32, 121, 32, 121, 36]⟩) ∧ Below w1.heap.size w1 w' ∧ Below W.heap.size W w') := fun W hb =>
    (HO.out [36, 40, 97, 41, 32, 36, 98, 36, 36] [120, 32, 121, 32, 121, 36] o m c W (hb1.trans (hb.mono hb1.size)) (hE1.below hb) (by decide) shown_0).mono fun e w' h => ⟨h.1, hb.trans (h.2.mono hb.size), h.2⟩
  have H1 : Hid (∀ W, Below w1.heap.size w1 W → Calls Tryz.prog 20 #[.agg #[.slice o m c], .string ⟨#[36, 40, 115, 58, 46, 99, 61, 46, 111, 41, 32, 36, 40, 102, 111, 114, 101, 97, 99, 104, 32, 105, 44, 36, 40, 115, 41, 44, 60, 36, 40, 105, 41, 62, 41]⟩] W fun e w' => e = .returned (.string ⟨#[112, 46, 111, 32, 113, 46, 111, 32, 60, 112, 46, 99, 62, 32, 60, 113, 46, 99, 62]⟩) ∧ Below w1.heap.size w1 w' ∧ Below W.heap.size W w') := fun W hb =>
    (HO.out [36, 40, 115, 58, 46, 99, 61, 46, 111, 41, 32, 36, 40, 102, 111, 114, 101, 97, 99, 104, 32, 105, 44, 36, 40, 115, 41, 44, 60, 36, 40, 105, 41, 62, 41] [112, 46, 111, 32, 113, 46, 111, 32, 60, 112, 46, 99, 62, 32, 60, 113, 46, 99, 62] o m c W (hb1.trans (hb.mono hb1.size)) (hE1.below hb) (by decide) shown_1).mono fun e w' h => ⟨h.1, hb.trans (h.2.mono hb.size), h.2⟩
  have H2 : Hid (∀ W, Below w1.heap.size w1 W → Calls Tryz.prog 20 #[.agg #[.slice o m c], .string ⟨#[36, 40, 99, 97, 108, 108, 32, 102, 44, 97, 44, 98, 41]⟩] W fun e w' => e = .returned (.string ⟨#[98, 97]⟩) ∧ Below w1.heap.size w1 w' ∧ Below W.heap.size W w') := fun W hb =>
    (HO.out [36, 40, 99, 97, 108, 108, 32, 102, 44, 97, 44, 98, 41] [98, 97] o m c W (hb1.trans (hb.mono hb1.size)) (hE1.below hb) (by decide) shown_2).mono fun e w' h => ⟨h.1, hb.trans (h.2.mono hb.size), h.2⟩
  have H3 : Hid (∀ W, Below w1.heap.size w1 W → Calls Tryz.prog 20 #[.agg #[.slice o m c], .string ⟨#[36, 40, 105, 102, 32, 44, 120, 44, 121, 41]⟩] W fun e w' => e = .returned (.string ⟨#[121]⟩) ∧ Below w1.heap.size w1 w' ∧ Below W.heap.size W w') := fun W hb =>
    (HO.out [36, 40, 105, 102, 32, 44, 120, 44, 121, 41] [121] o m c W (hb1.trans (hb.mono hb1.size)) (hE1.below hb) (by decide) shown_3).mono fun e w' h => ⟨h.1, hb.trans (h.2.mono hb.size), h.2⟩
  have HB1 := Lib.hid hb1
  have HB2 := Lib.hid hB2
  clear hb1 hE1 HR HO hB2
  go_wp2_with fail
  refine (H0.out _ HB2.out).mono ?_
  rintro e v0 ⟨rfl, hb0, hc0⟩
  have hl0 := Nat.lt_of_lt_of_le hlt hc0.size
  have y1 := (hc0.cell (p := ⟨w1.heap.size, 0, none⟩) hlt).trans y0
  have HC0 := Lib.hid hb0
  clear hb0 hc0 H0
  go_wp2_with fail
  refine (H1.out _ HC0.out).mono ?_
  rintro e v1 ⟨rfl, hb1, hc1⟩
  have hl1 := Nat.lt_of_lt_of_le hl0 hc1.size
  have y2 := (hc1.cell (p := ⟨w1.heap.size, 0, none⟩) hl0).trans y1
  have HC1 := Lib.hid hb1
  clear hb1 hc1 H1
  go_wp2_with fail
  refine (H2.out _ HC1.out).mono ?_
  rintro e v2 ⟨rfl, hb2, hc2⟩
  have hl2 := Nat.lt_of_lt_of_le hl1 hc2.size
  have y3 := (hc2.cell (p := ⟨w1.heap.size, 0, none⟩) hl1).trans y2
  have HC2 := Lib.hid hb2
  clear hb2 hc2 H2
  go_wp2_with fail
  refine (H3.out _ HC2.out).mono ?_
  rintro e v3 ⟨rfl, hb3, hc3⟩
  have hl3 := Nat.lt_of_lt_of_le hl2 hc3.size
  have y4 := (hc3.cell (p := ⟨w1.heap.size, 0, none⟩) hl2).trans y3
  have HC3 := Lib.hid hb3
  clear hb3 hc3 H3
  go_wp2_with fail
  go_ret
  exact ⟨rfl, HB1.out.trans (HC3.out.mono HB1.out.size)⟩
end Go.Proofs.YtbngoodjgijmgaaGreatDoor
