/-
  A row of bytes of a call's own, nil at first: what is open, the last one behind. No condition.
  What the document's own closed answers: where what is opened at the beginning of a text closes. No condition but sizes.
  What the document's own outside answers: of each byte, is it outside; for every text of at most a million bytes. No condition.
  What the document's own Cut answers, for every text of at most a million bytes, and every row of signs. No condition.
-/
import Derived.Deep.QuietTactic
import Derived.Deep.DeepCutAuto
import Derived.Deep.CutBlock
import Derived.BigQuiet
import Derived.Test.YtbngoodjgijmgaaGreatDoorGC
namespace Go.Proofs.YtbngoodjgijmgaaGreatDoor
open Go.RowKit Go.Shelf
attribute [local go_sem] Oper.semAt_some

/-- The slice v reads as what is open, out of a block from base on; or it is nil. -/
abbrev OwnU (W : World) (base : Nat) (v : Value) (st : List UInt8) : Prop := W.ownsRow base 5 1 v st.length (stB st)
theorem OwnU.nil (W : World) (base : Nat) : OwnU W base (.slice none 0 0) [] := World.ownsRow_nil _ _ _ _
section
variable {W W' : World} {base : Nat} {v : Value} {st : List UInt8}
theorem OwnU.turned {X : Nat → Prop} (h : OwnU W base v st) (hT : Turned X W W') (hx : ∀ b, base ≤ b → ¬ X b) : OwnU W' base v st := by
  refine ⟨h.1, ?_⟩
  rcases h.2 with h | ⟨g, cap, cur, h1, h2, h3, h4⟩
  · exact .inl h
  · exact .inr ⟨g, cap, cur, h1, h2, (hT.block g (Array.getElem?_eq_some_iff.1 h3).1 (hx g h2)).trans h3, h4⟩
theorem OwnU.drew (h : OwnU W base v st) (n : Nat) : OwnU (W.drewN n) base v st := h.turned (Turned.drewN (fun _ => False) W n) (fun _ _ h => h)
theorem OwnU.shape (h : OwnU W base v st) : ∃ o c, v = .slice o st.length c ∧ st.length ≤ c ∧ ∀ q st', st = q :: st' → ∃ g, o = some ⟨g, 0, none⟩ ∧ base ≤ g ∧ g < W.heap.size ∧ W.cell? ⟨g, st'.length, none⟩ = some (encByte q) := by
  rcases h.2 with ⟨rfl, h2⟩ | ⟨g, cap, cur, rfl, h2, h3, h4, h5, h6, h7⟩
  · exact ⟨none, 0, by rw [h2], by omega, fun q st' e => by rw [e] at h2; simp at h2⟩
  · refine ⟨_, cap, rfl, h4, fun q st' e => ⟨g, rfl, h2, (Array.getElem?_eq_some_iff.1 h3).1, ?_⟩⟩
    subst e
    rw [Lib.cell_of_heap h3]
    rw [Nat.mul_one, stB_cons] at h7
    have e2 : (cur.toList.take (st'.length + 1))[st'.length]? = some (encByte q) := by
      have : (q :: st').length = st'.length + 1 := rfl
      rw [← this, h7, List.getElem?_append_right (by rw [stB_len]; exact Nat.le_refl _), stB_len]; simp
    rw [List.getElem?_take_of_lt (by omega)] at e2
    simpa using e2
theorem OwnU.pop {o : Option Addr} {c : Nat} {q : UInt8} (h : OwnU W base (.slice o (st.length + 1) c) (q :: st)) : OwnU W base (.slice o st.length c) st := by
  rcases h.2 with ⟨hv, _⟩ | ⟨g, cap, cur, hv, h2, h3, h4, h5, h6, h7⟩
  · simp at hv
  · simp only [Value.slice.injEq] at hv
    obtain ⟨rfl, _, rfl⟩ := hv
    refine ⟨by rw [stB_len, Nat.mul_one], .inr ⟨g, c, cur, rfl, h2, h3, by simp only [List.length_cons] at h4; omega, h5, h6, ?_⟩⟩
    rw [Nat.mul_one, stB_cons] at h7
    have := congrArg (List.take st.length) h7
    rw [List.take_take, List.take_append_of_le_length (by rw [stB_len]; exact Nat.le_refl _), List.take_of_length_le (l := stB st) (by rw [stB_len]; exact Nat.le_refl _)] at this
    rwa [Nat.min_eq_left (by simp), ← Nat.mul_one st.length] at this
theorem OwnU.push (h : OwnU W base v st) (q : UInt8) (hl : st.length ≤ 1000000) (hbase : base ≤ W.heap.size) (ty : TypeId) :
    ∃ o c w', (Builtin.append_ #[77, 77] ty #[v, .slice (some ⟨W.heap.size, 0, none⟩) 1 1]).run Tryz.prog (W.alloc (.cells #[.int .u8 (q.toNat : Int)] 5)) = .ok (.slice o (st.length + 1) c) w' ∧ OwnU w' base (.slice o (st.length + 1) c) (q :: st) ∧ Below base W w' := by
  obtain ⟨i0, hi, hz0, hz1, hz2⟩ := info_parts byteInfo
  have hn := World.alloc_heap_new W (.cells #[.int .u8 (q.toNat : Int)] 5)
  have h2 : (W.alloc (.cells #[.int .u8 (q.toNat : Int)] 5)).ownsRow base 5 1 v st.length (stB st) := World.ownsRow.alloc h _
  obtain ⟨v', w', hrun, h3, h4, _⟩ := run_append_own (P := Tryz.prog) (W.alloc (.cells #[.int .u8 (q.toNat : Int)] 5)) base 77 ty 5 i0 _ 1 1 Tryz.underlying77 hi hz0 hz1 hz2 rfl (by decide) v st.length _ h2 ⟨W.heap.size, 0, none⟩ 1 1 [.int .u8 (q.toNat : Int)] rfl
    (by
      intro j u hj
      cases j with
      | zero => cases hj; rw [Addr.add_lit]; exact Lib.cell_of_heap hn 0
      | succ j => simp at hj)
    (by
      intro u hu
      rw [List.mem_singleton.1 hu]; rfl)
    (by unfold maxLen; omega) (by omega) (by simp; omega)
  have hown : OwnU w' base v' (q :: st) := by
    unfold OwnU
    rw [List.length_cons, stB_cons]
    exact h3
  have hB : Below base W w' := ((Below.refl base W).alloc hbase _).grown h4 (by simp; omega) (fun k hk => (h2.lt k hk).1)
  obtain ⟨o, c, rfl, _⟩ := hown.shape
  exact ⟨o, c, w', hrun, hown, hB⟩
end
theorem rest_at {s : ByteArray} {i : Nat} (h : i < s.size) : s.data.toList.drop i = s[i] :: s.data.toList.drop (i + 1) := by
  have h' : i < s.data.toList.length := by rw [Array.length_toList]; exact h
  rw [List.drop_eq_getElem_cons h', Array.getElem_toList]; rfl
theorem rest_end {s : ByteArray} {i : Nat} (h : s.size ≤ i) : s.data.toList.drop i = [] := List.drop_eq_nil_of_le (by rw [size_list]; exact h)
/-- Does it open here? As the tests ask. -/
theorem opens_ways (s : ByteArray) (i : Nat) (h : i < s.size) :
    (opens (s.data.toList.drop i) = none ∧ ((s[i].toNat : Int) == 36) = false) ∨ (opens (s.data.toList.drop i) = none ∧ ((s[i].toNat : Int) == 36) = true ∧ ¬ i + 1 < s.size) ∨
    (∃ h1 : i + 1 < s.size, (opens (s.data.toList.drop i) = none ∧ ((s[i].toNat : Int) == 36) = true ∧ ((s[i + 1].toNat : Int) == 40) = false ∧ ((s[i + 1].toNat : Int) == 123) = false) ∨
      (opens (s.data.toList.drop i) = some 41 ∧ ((s[i].toNat : Int) == 36) = true ∧ ((s[i + 1].toNat : Int) == 40) = true ∧ ((s[i + 1].toNat : Int) == 123) = false) ∨
      (opens (s.data.toList.drop i) = some 125 ∧ ((s[i].toNat : Int) == 36) = true ∧ ((s[i + 1].toNat : Int) == 40) = false ∧ ((s[i + 1].toNat : Int) == 123) = true)) := by
  have e1 := rest_at h
  by_cases h36 : s[i].toNat = 36
  · have c36 : s[i] = 36 := UInt8.toNat_inj.1 (by rw [h36]; rfl)
    by_cases h1 : i + 1 < s.size
    · have e2 := rest_at h1
      refine .inr (.inr ⟨h1, ?_⟩)
      by_cases h40 : s[i + 1].toNat = 40
      · have c40 : s[i + 1] = 40 := UInt8.toNat_inj.1 (by rw [h40]; rfl)
        refine .inr (.inl ⟨?_, by simp; omega, by simp; omega, by simp; omega⟩)
        rw [e1, e2, c36, c40]; rfl
      · by_cases h123 : s[i + 1].toNat = 123
        · have c123 : s[i + 1] = 123 := UInt8.toNat_inj.1 (by rw [h123]; rfl)
          refine .inr (.inr ⟨?_, by simp; omega, by simp; omega, by simp; omega⟩)
          rw [e1, e2, c36, c123]; rfl
        · refine .inl ⟨?_, by simp; omega, by simp; omega, by simp; omega⟩
          rw [e1, e2]
          show (if s[i] = 36 then (if s[i + 1] = 40 then some 41 else if s[i + 1] = 123 then some 125 else none) else none) = (none : Option UInt8)
          rw [if_pos c36, if_neg (fun e => h40 (by rw [e]; rfl)), if_neg (fun e => h123 (by rw [e]; rfl))]
    · refine .inr (.inl ⟨?_, by simp; omega, h1⟩)
      rw [e1, rest_end (by omega)]; rfl
  · refine .inl ⟨?_, by simp; omega⟩
    rw [e1]
    cases s.data.toList.drop (i + 1) with
    | nil => rfl
    | cons d r =>
      show (if s[i] = 36 then (if d = 40 then some 41 else if d = 123 then some 125 else none) else none) = (none : Option UInt8)
      rw [if_neg (fun e => h36 (by rw [e]; rfl))]
end Go.Proofs.YtbngoodjgijmgaaGreatDoor

namespace Go.Proofs.YtbngoodjgijmgaaGreatDoor
open Go.RowKit Go.Shelf
attribute [local go_sem] Oper.semAt_some

/-- What the loop keeps, before and behind the first opening. -/
def ClS (q : UInt8) (r : BT) (i : Nat) (stk : List UInt8) : Prop := (i = 0 ∧ stk = []) ∨ ∃ st j, i = j + 2 ∧ stk = st ++ [q] ∧ CutS [[q]] r st j
theorem CutS.begin2 {sg : List BS} {l : BS} {st : List UInt8} {i : Nat} {q : UInt8} (h : CutS sg l st i) (ho : opens (l.drop i) = some q) : CutS sg l (q :: st) (i + 2) := by
  unfold CutS at h ⊢
  match hd : l.drop i, ho with
  | c :: d :: r, ho =>
    have e2 : l.drop (i + 2) = r := by rw [← List.drop_drop, hd]; rfl
    have e3 : l.take (i + 2) = l.take i ++ [c, d] := by rw [List.take_add, hd]; rfl
    rw [hd] at h
    rw [h, cutW_open ho, e2, e3]
    simp [Cut3.put]
section
variable {q b : UInt8} {r : BT} {i : Nat} {stk : List UInt8}
theorem drop_two (j : Nat) : (36 :: b :: r).drop (j + 2) = r.drop j := rfl
theorem ClS.push (h : ClS q r i stk) (hb : opens (36 :: b :: r) = some q) {p : UInt8} (ho : opens ((36 :: b :: r).drop i) = some p) : ClS q r (i + 2) (p :: stk) := by
  rcases h with ⟨rfl, rfl⟩ | ⟨st, j, rfl, rfl, hC⟩
  · rw [List.drop_zero, hb] at ho
    cases ho
    exact .inr ⟨[], 0, rfl, rfl, CutS.start _ _⟩
  · rw [drop_two] at ho
    exact .inr ⟨p :: st, j + 2, by omega, rfl, hC.begin2 ho⟩
theorem ClS.later (h : ClS q r i stk) (hb : opens (36 :: b :: r) = some q) (ho : opens ((36 :: b :: r).drop i) = none) : ∃ st j, i = j + 2 ∧ stk = st ++ [q] ∧ CutS [[q]] r st j ∧ opens (r.drop j) = none := by
  rcases h with ⟨rfl, rfl⟩ | ⟨st, j, rfl, rfl, hC⟩
  · rw [List.drop_zero, hb] at ho; cases ho
  · exact ⟨st, j, rfl, rfl, hC, ho⟩
theorem ClS.stay (h : ClS q r i stk) (hb : opens (36 :: b :: r) = some q) (ho : opens ((36 :: b :: r).drop i) = none) {c : UInt8} (hd : (36 :: b :: r).drop i = c :: (36 :: b :: r).drop (i + 1)) (ht : stk.head? ≠ some c) : ClS q r (i + 1) stk := by
  obtain ⟨st, j, rfl, rfl, hC, ho⟩ := h.later hb ho
  have hd' : r.drop j = c :: r.drop (j + 1) := hd
  have hj : j < r.length := by
    have := congrArg List.length hd'
    rw [List.length_drop, List.length_cons] at this
    omega
  have hc : r[j] = c := by
    have := List.drop_eq_getElem_cons hj
    rw [hd'] at this
    exact (List.cons.inj this).1.symm
  refine .inr ⟨st, j + 1, by omega, rfl, ?_⟩
  cases st with
  | nil =>
    refine hC.outside hj ho ?_
    have hq : c ≠ q := fun e => ht (by rw [e]; rfl)
    rw [hd']
    unfold signAt
    rw [List.find?_eq_none]
    intro x hx
    simp only [List.mem_singleton] at hx
    subst hx
    simpa [List.isPrefixOf] using fun e => hq e.symm
  | cons t st => exact hC.inside hj ho (fun e => ht (by rw [← hc, e]; rfl))
theorem ClS.pop {c : UInt8} {stk' : List UInt8} (h : ClS q r i (c :: stk')) (hn : stk' ≠ []) (hb : opens (36 :: b :: r) = some q) (ho : opens ((36 :: b :: r).drop i) = none) (hd : (36 :: b :: r).drop i = c :: (36 :: b :: r).drop (i + 1)) : ClS q r (i + 1) stk' := by
  obtain ⟨st, j, rfl, e, hC, ho⟩ := h.later hb ho
  have hd' : r.drop j = c :: r.drop (j + 1) := hd
  have hj : j < r.length := by
    have := congrArg List.length hd'
    rw [List.length_drop, List.length_cons] at this
    omega
  have hc : r[j] = c := by
    have := List.drop_eq_getElem_cons hj
    rw [hd'] at this
    exact (List.cons.inj this).1.symm
  cases st with
  | nil =>
    simp only [List.nil_append, List.cons.injEq] at e
    exact absurd e.2 hn
  | cons t st =>
    simp only [List.cons_append, List.cons.injEq] at e
    obtain ⟨rfl, rfl⟩ := e
    exact .inr ⟨st, j + 1, by omega, rfl, hC.close hj ho hc⟩
theorem ClS.hit {c : UInt8} (h : ClS q r i [c]) (hb : opens (36 :: b :: r) = some q) (ho : opens ((36 :: b :: r).drop i) = none) (hd : (36 :: b :: r).drop i = c :: (36 :: b :: r).drop (i + 1)) :
    (cutOf [[q]] r).2.1 = [q] ∧ (cutOf [[q]] r).1.length + 2 = i := by
  obtain ⟨st, j, rfl, e, hC, ho⟩ := h.later hb ho
  have hd' : r.drop j = c :: r.drop (j + 1) := hd
  have hj : j < r.length := by
    have := congrArg List.length hd'
    rw [List.length_drop, List.length_cons] at this
    omega
  obtain ⟨rfl, rfl⟩ : st = [] ∧ c = q := by
    cases st with
    | nil => simp only [List.nil_append, List.cons.injEq, and_true] at e; exact ⟨rfl, e⟩
    | cons t st => simp at e
  have := hC.hit hj ho (x := [c]) (by rw [hd']; unfold signAt; rw [List.find?_cons_of_pos (by simp [List.isPrefixOf])])
  rw [this]
  exact ⟨rfl, by simp; omega⟩
theorem ClS.stop (h : ClS q r i stk) (hi : (36 :: b :: r).length ≤ i) : (cutOf [[q]] r).2.1 = [] := by
  rcases h with ⟨rfl, rfl⟩ | ⟨st, j, rfl, rfl, hC⟩
  · simp at hi
  · simp only [List.length_cons] at hi
    rw [hC.done (by omega)]
end
def closeI (q : UInt8) (r : BT) : Int := if (cutOf [[q]] r).2.1 = [] then -1 else ((cutOf [[q]] r).1.length : Int) + 2
set_option maxRecDepth 100000 in
set_option maxHeartbeats 8000000 in
theorem closed_any (q b : UInt8) (r : BT) (hb : opens (36 :: b :: r) = some q) (hs : r.length ≤ 900000) (w : World) :
    Calls Tryz.prog 38 #[.string (txt (36 :: b :: r))] w fun e w' => e = .returned (.int .i64 (closeI q r)) ∧ Below w.heap.size w w' := by
  obtain ⟨s, hse⟩ : ∃ s, s = txt (36 :: b :: r) := ⟨_, rfl⟩
  have hl : s.data.toList = 36 :: b :: r := by rw [hse, txt_data]
  have hsz : s.size = r.length + 2 := by rw [hse, txt_size]; rfl
  rw [← hse]
  have HB := Lib.hid hb
  have HL := Lib.hid hl
  clear hse hb hl
  go_enter Tryz.func38, Tryz.ntmps38
  go_wp2
  go_loopw [3, 4] (fun sv iv wr => ∃ (i : Nat) (stk : List UInt8) (o : Option Addr) (c : Nat), i ≤ s.size ∧ stk.length ≤ i ∧ sv = .slice o stk.length c ∧ iv = .int .i64 i ∧ Hid (ClS q r i stk) ∧ Hid (Below w.heap.size w wr) ∧ Hid (OwnU wr w.heap.size (.slice o stk.length c) stk)) (fun _ iv _ => s.size - (intOf iv).toNat)
  case atStart => exact ⟨0, [], none, 0, Nat.zero_le _, Nat.le_refl _, rfl, rfl, .inl ⟨rfl, rfl⟩, Below.refl _ _, OwnU.nil _ _⟩
  case round =>
    obtain ⟨i, stk, po, pc, hi, hfew, rfl, rfl, HC, HBw, HO⟩ := hrel
    obtain ⟨o2, c2, e, hqc, hT⟩ := HO.out.shape
    cases e
    by_cases hlt : i < s.size
    · have HR := Lib.hid (rest_at hlt)
      have HW := Lib.hid (opens_ways s i hlt)
      obtain ⟨op, hop⟩ : ∃ op, op = opens (s.data.toList.drop i) := ⟨_, rfl⟩
      go_upto_region 5 with fail
      go_cut [36] (fun tv wx => tv = .bool op.isSome ∧ wx = wr)
      case first =>
        clear hT hfew
        rcases HW.out with ⟨ho, e1⟩ | ⟨ho, e1, e2⟩ | ⟨hl1, ⟨ho, e1, e2, e3⟩ | ⟨ho, e1, e2, e3⟩ | ⟨ho, e1, e2, e3⟩⟩
        all_goals (
          rw [ho] at hop
          subst hop
          clear ho HW
          go_wp2
          go_meet
          exact ⟨rfl, rfl⟩)
      case rest =>
        obtain ⟨rfl, hw⟩ := hcut
        have hw' := hw.symm
        subst hw'
        rcases HW.out with ⟨ho, _⟩ | ⟨ho, _⟩ | ⟨hl1, ⟨ho, _⟩ | ⟨ho, _, e2, e3⟩ | ⟨ho, _, e2, e3⟩⟩
        iterate 3
          · have HP : Hid (opens ((36 :: b :: r).drop i) = none) := by show _ = _; rw [← HL.out]; exact ho
            have HD : Hid ((36 :: b :: r).drop i = s[i] :: (36 :: b :: r).drop (i + 1)) := by show _ = _; rw [← HL.out]; exact HR.out
            rw [ho] at hop
            subst hop
            clear ho HW HR
            cases stk with
            | nil =>
              obtain ⟨st, j, _, e, _⟩ := HC.out.later HB.out HP.out
              simp at e
            | cons t stk =>
              obtain ⟨g, rfl, hgb, hgl, hcell⟩ := hT t stk rfl
              have ho2 := HO.out
              obtain ⟨n, hn⟩ : ∃ n, n = stk.length := ⟨_, rfl⟩
              simp only [List.length_cons] at hfew hqc ho2 ⊢
              rw [← hn] at hcell hfew hqc ho2 ⊢
              have HNl := Lib.hid hn
              have HO1 : Hid (OwnU wr w.heap.size (.slice (some ⟨g, 0, none⟩) (n + 1) pc) (t :: stk)) := ho2
              have HO2 : Hid (OwnU wr w.heap.size (.slice (some ⟨g, 0, none⟩) n pc) stk) := by
                have h := ho2
                rw [hn] at h ⊢
                exact OwnU.pop h
              clear hT hn ho2 HO
              by_cases hc : s[i].toNat = t.toNat
              · have e8 : ((s[i].toNat : Int) == (t.toNat : Int)) = true := by simp; omega
                have hct : s[i] = t := UInt8.toNat_inj.1 hc
                rw [hct] at HD
                clear hc hct HO1
                by_cases hst : stk = []
                · subst hst
                  obtain ⟨h1, h2⟩ := HC.out.hit HB.out HP.out HD.out
                  have HV : Hid (closeI q r = (i : Int)) := by
                    show _ = _
                    unfold closeI
                    rw [if_neg (by rw [h1]; simp), ← h2]; push_cast; rfl
                  have hn0 : ((n : Int) == 0) = true := by rw [beq_iff_eq]; have := HNl.out; simp at this; omega
                  clear h1 h2 HC HO2 HD HP HNl
                  go_wp2
                  go_quiet (fail)
                  go_wp2
                  go_ret
                  exact ⟨by rw [HV.out]; rfl, HBw.out.trans (drewN_below _ _ _)⟩
                · have HN := Lib.hid (HC.out.pop hst HB.out HP.out HD.out)
                  have hne : ((n : Int) == 0) = false := by rw [beq_eq_false_iff_ne]; have := HNl.out; have := List.length_pos_iff.2 hst; omega
                  have hfew3 : stk.length ≤ i + 1 := by have := HNl.out; omega
                  clear HC hst
                  go_wp2
                  go_quiet (fail)
                  have HB9 := Lib.hid (HBw.out.trans (drewN_below w.heap.size wr nq))
                  have HO9 : Hid (OwnU (wr.drewN nq) w.heap.size (.slice (some ⟨g, 0, none⟩) stk.length pc) stk) := by
                    rw [← HNl.out]
                    exact HO2.out.drew nq
                  clear hcell HBw HO2
                  generalize wr.drewN nq = wz at HB9 HO9 ⊢
                  go_wp2
                  go_roundw
                  case rel => exact ⟨i + 1, stk, _, _, hlt, hfew3, by rw [HNl.out], by go_num, HN, HB9, HO9⟩
                  case measure => simp [intOf]; omega
              · have e8 : ((s[i].toNat : Int) == (t.toNat : Int)) = false := by simp; omega
                have HN := Lib.hid (HC.out.stay HB.out HP.out HD.out (fun e => hc (by cases e; rfl)))
                have hfew3 : (t :: stk).length ≤ i + 1 := by have := HNl.out; simp only [List.length_cons]; omega
                clear hc HC HO2
                go_wp2
                go_quiet (fail)
                have HB9 := Lib.hid (HBw.out.trans (drewN_below w.heap.size wr nq))
                have HO9 : Hid (OwnU (wr.drewN nq) w.heap.size (.slice (some ⟨g, 0, none⟩) (t :: stk).length pc) (t :: stk)) := by
                  have h := HO1.out.drew nq
                  rw [HNl.out] at h
                  exact h
                clear hcell HBw HO1
                generalize wr.drewN nq = wz at HB9 HO9 ⊢
                go_wp2
                go_roundw
                case rel => exact ⟨i + 1, t :: stk, _, _, hlt, hfew3, by rw [HNl.out]; rfl, by go_num, HN, HB9, HO9⟩
                case measure => simp [intOf]; omega
        · have HN := Lib.hid (HC.out.push HB.out (by rw [← HL.out]; exact ho))
          obtain ⟨qo, qc, w3, hrun, hO3, hb3⟩ := HO.out.push (41 : UInt8) (by omega) HBw.out.size 77
          have HO3 := Lib.hid hO3
          have HB3 := Lib.hid (HBw.out.trans hb3)
          rw [ho] at hop
          subst hop
          clear hT hO3 hb3 ho HW HO HC HBw HR
          go_wp2_with (first
            | (at_builtin; refine wpList_append_eq rfl _ _ 77 rfl _ _ _ w3 rfl rfl hrun ?_)
            | go_in)
          go_roundw
          case rel => exact ⟨i + 2, 41 :: stk, _, _, hl1, by simp; omega, by rfl, by go_num, HN, HB3, HO3⟩
          case measure => simp [intOf]; omega
        · have HN := Lib.hid (HC.out.push HB.out (by rw [← HL.out]; exact ho))
          obtain ⟨qo, qc, w3, hrun, hO3, hb3⟩ := HO.out.push (125 : UInt8) (by omega) HBw.out.size 77
          have HO3 := Lib.hid hO3
          have HB3 := Lib.hid (HBw.out.trans hb3)
          rw [ho] at hop
          subst hop
          clear hT hO3 hb3 ho HW HO HC HBw HR
          go_wp2_with (first
            | (at_builtin; refine wpList_append_eq rfl _ _ 77 rfl _ _ _ w3 rfl rfl hrun ?_)
            | go_in)
          go_roundw
          case rel => exact ⟨i + 2, 125 :: stk, _, _, hl1, by simp; omega, by rfl, by go_num, HN, HB3, HO3⟩
          case measure => simp [intOf]; omega
    · have HV : Hid (closeI q r = -1) := by
        show _ = _
        unfold closeI
        rw [if_pos (HC.out.stop (b := b) (by simp only [List.length_cons]; omega))]
      clear HC HO hT
      go_wp2
      go_ret
      exact ⟨by rw [HV.out]; rfl, HBw.out⟩
end Go.Proofs.YtbngoodjgijmgaaGreatDoor

namespace Go.Proofs.YtbngoodjgijmgaaGreatDoor
open Go.RowKit Go.Shelf
attribute [local go_sem] Oper.semAt_some

/-- The answer's block: ahead of i what is outside, behind it nothing yet. -/
def OutB (w : World) (ob n : Nat) (pre : List Bool) : Prop :=
  ∃ cs, w.heap[ob]? = some (.cells cs 4 (0, 0)) ∧ cs.size = n ∧ ∀ j, j < n → cs[j]? = some (.bool (pre.getD j false))
/-- What the loop keeps: what is open, the last one behind. -/
structure OutAt (w0 : World) (l : BS) (n i : Nat) (st : List UInt8) (pre : List Bool) (wr : World) (sv : Value) : Prop where
  back : Below w0.heap.size w0 wr
  outs : outsL [] l = pre ++ outsL st (l.drop i)
  len : pre.length = i
  few : st.length ≤ i
  cells : OutB wr w0.heap.size n pre
  row : OwnU wr (w0.heap.size + 1) sv st
theorem OutB.kept {w w' : World} {ob n : Nat} {pre : List Bool} {X : Nat → Prop} (h : OutB w ob n pre) (hT : Turned X w w') (hx : ¬ X ob) : OutB w' ob n pre := by
  obtain ⟨cs, h1, h2, h3⟩ := h
  exact ⟨cs, (hT.block ob (Array.getElem?_eq_some_iff.1 h1).1 hx).trans h1, h2, h3⟩
theorem OutB.more {w : World} {ob n : Nat} {pre : List Bool} (h : OutB w ob n pre) (k : Nat) : OutB w ob n (pre ++ List.replicate k false) := by
  obtain ⟨cs, h1, h2, h3⟩ := h
  refine ⟨cs, h1, h2, fun j hj => ?_⟩
  rw [h3 j hj]
  congr 2
  simp only [List.getD_eq_getElem?_getD, List.getElem?_append]
  split
  · rfl
  · rename_i hjp
    rw [List.getElem?_eq_none (by omega), List.getElem?_replicate]
    split <;> rfl
theorem OutB.set {w : World} {ob n : Nat} {pre : List Bool} (h : OutB w ob n pre) (b : Bool) (hl : pre.length < n) : OutB (w.setCell ⟨ob, pre.length, none⟩ (.bool b)) ob n (pre ++ [b]) := by
  obtain ⟨cs, h1, h2, h3⟩ := h
  refine ⟨cs.set! pre.length (.bool b), by simp [World.setCell, Array.getElem?_modify, h1], by simp [h2], fun j hj => ?_⟩
  rw [Array.set!_eq_setIfInBounds, Array.getElem?_setIfInBounds]
  by_cases hjp : pre.length = j
  · subst hjp
    rw [if_pos rfl, if_pos (by omega)]
    simp
  · rw [if_neg hjp, h3 j hj]
    congr 2
    simp only [List.getD_eq_getElem?_getD, List.getElem?_append]
    split
    · rfl
    · rw [List.getElem?_eq_none (by omega), List.getElem?_eq_none (by simp; omega)]
section
variable {w0 wr w' : World} {l : BS} {n i : Nat} {st : List UInt8} {pre : List Bool} {sv : Value}
theorem OutAt.slice (h : OutAt w0 l n i st pre wr sv) : ∃ o c, sv = .slice o st.length c ∧ st.length ≤ c ∧ OutAt w0 l n i st pre wr (.slice o st.length c) ∧
    (∀ t st', st = t :: st' → ∃ g, o = some ⟨g, 0, none⟩ ∧ wr.cell? ⟨g, st'.length, none⟩ = some (.int .u8 (t.toNat : Int))) := by
  obtain ⟨o, c, hv, h1, h4⟩ := h.row.shape
  refine ⟨o, c, hv, h1, hv ▸ h, fun t st' hst => ?_⟩
  obtain ⟨g, hg, _, _, hx⟩ := h4 t st' hst
  exact ⟨g, hg, hx⟩
theorem OutAt.drew (h : OutAt w0 l n i st pre wr sv) (m : Nat) : OutAt w0 l n i st pre (wr.drewN m) sv :=
  ⟨⟨h.back.os, h.back.tape, h.back.output, h.back.size, h.back.block⟩, h.outs, h.len, h.few, h.cells, h.row⟩
theorem OutAt.cell (h : OutAt w0 l n i st pre wr sv) (hi : i < n) : ∃ v, wr.cell? ⟨w0.heap.size, i, none⟩ = some v ∧ wr.frozen? ⟨w0.heap.size, i, none⟩ = false := by
  obtain ⟨cs, h1, h2, h3⟩ := h.cells
  exact ⟨_, by rw [Lib.cell_of_heap h1]; exact h3 i hi, Lib.frozen_of_heap h1 i⟩
/-- One that closes. -/
theorem OutAt.close {t : UInt8} {o : Option Addr} {c : Nat} (h : OutAt w0 l n i (t :: st) pre wr (.slice o (st.length + 1) c)) (hd : l.drop i = t :: l.drop (i + 1)) (ho : opens (l.drop i) = none) : OutAt w0 l n (i + 1) st (pre ++ [false]) wr (.slice o st.length c) := by
  refine ⟨h.back, ?_, by simp [h.len], by have := h.few; simp at this; omega, h.cells.more 1, ?_⟩
  · rw [h.outs, hd, outs_close (by rw [← hd]; exact ho) rfl]
    simp
  · exact h.row.pop
/-- Neither. -/
theorem OutAt.plain {t : UInt8} (h : OutAt w0 l n i st pre wr sv) (hin : i < n) (hd : l.drop i = t :: l.drop (i + 1)) (ho : opens (l.drop i) = none) (ht : ¬ st.head? = some t) :
    OutAt w0 l n (i + 1) st (pre ++ [decide (st = [])]) (wr.setCell ⟨w0.heap.size, i, none⟩ (.bool (decide (st = [])))) sv := by
  have hT := Turned.setCell (X := fun m => m = w0.heap.size) wr ⟨w0.heap.size, i, none⟩ (.bool (decide (st = []))) rfl
  refine ⟨h.back.trans (hT.below h.back.size (fun m hm => by omega)), ?_, by simp [h.len], by have := h.few; omega, ?_, h.row.turned hT (fun m hm hx => by omega)⟩
  · rw [h.outs, hd, outs_plain (by rw [← hd]; exact ho) ht]
    simp
  · have hs := h.cells.set (decide (st = [])) (by rw [h.len]; exact hin)
    rw [h.len] at hs
    exact hs
/-- One that opens. -/
theorem OutAt.open {q d e : UInt8} (h : OutAt w0 l n i st pre wr sv) (hd : l.drop i = d :: e :: l.drop (i + 2)) (ho : opens (l.drop i) = some q) (hi : i ≤ 1000000) (ty : TypeId) :
    ∃ o c w', (Builtin.append_ #[77, 77] ty #[sv, .slice (some ⟨wr.heap.size, 0, none⟩) 1 1]).run Tryz.prog (wr.alloc (.cells #[.int .u8 (q.toNat : Int)] 5)) = .ok (.slice o (st.length + 1) c) w' ∧ OutAt w0 l n (i + 2) (q :: st) (pre ++ [false, false]) w' (.slice o (st.length + 1) c) := by
  have hob : w0.heap.size < wr.heap.size := by
    obtain ⟨cs, h1, _⟩ := h.cells
    exact (Array.getElem?_eq_some_iff.1 h1).1
  obtain ⟨o, c, w', hrun, hR, hb⟩ := h.row.push q (by have := h.few; omega) hob ty
  have hT : Turned (fun b => w0.heap.size + 1 ≤ b) wr w' := ⟨hb.os, hb.tape, hb.output, hb.size, fun k _ hx => hb.block k (by omega)⟩
  refine ⟨o, c, w', hrun, ⟨h.back.trans (hT.below h.back.size (fun m hm => by omega)), ?_, by simp [h.len], by have := h.few; simp; omega, (h.cells.kept hT (fun hx => by omega)).more 2, hR⟩⟩
  rw [h.outs, hd, outs_open (by rw [← hd]; exact ho)]
  simp
end
theorem infoBool : (Tryz.prog.info? 4).map (fun i => (i.zero, i.size, i.bytes)) = some (some (.bool false), 1, 1) := by kernel_rfl
def OutPost (l : BS) (n : Nat) (w : World) (e : Ending) (w' : World) : Prop :=
  e = .returned (.slice (some ⟨w.heap.size, 0, none⟩) n n) ∧ (∃ cs, w'.heap[w.heap.size]? = some (.cells cs 4 (0, 0)) ∧ ∀ (j : Nat) b, (outsL [] l)[j]? = some b → cs[j]? = some (.bool b)) ∧ Below w.heap.size w w'

set_option maxRecDepth 100000 in
set_option maxHeartbeats 8000000 in
theorem outside9_any (s : ByteArray) (hs : s.size ≤ 1000000) (w : World) : Calls Tryz.prog 77 #[.string s] w (OutPost s.data.toList s.size w) := by
  have hmk : ∀ w : World, (Instr.makeSlice 120 (.int .i64 (s.size : Int)) (.int .i64 (s.size : Int))).run Tryz.prog w = .ok (.slice (some ⟨w.heap.size, 0, none⟩) s.size s.size) (w.alloc (.cells (madeCells #[.bool false] s.size) 4)) := fun w =>
    run_make_row' 120 4 (.bool false) 1 Tryz.underlying120 infoBool rfl .i64 .i64 s.size (by omega) (by omega) w
  go_enter Tryz.func77, Tryz.ntmps77
  go_wp2
  go_loopw [4, 5] (fun sv iv wr => ∃ (i : Nat) (st : List UInt8) (pre : List Bool), i ≤ s.size ∧ iv = .int .i64 i ∧ OutAt w s.data.toList s.size i st pre wr sv) (fun _ iv _ => s.size - (intOf iv).toNat)
  case atStart =>
    refine ⟨0, [], [], Nat.zero_le _, rfl, (Below.refl _ w).alloc (Nat.le_refl _) _, rfl, rfl, Nat.le_refl _, ⟨_, World.alloc_heap_new w _, size_madeCells _ _, fun j hj => by simp [madeCells, hj, Nat.mod_one]⟩, OwnU.nil _ _⟩
  case round =>
    obtain ⟨i, st, pre, hi, rfl, hO0⟩ := hrel
    obtain ⟨qo, qc, rfl, hqc, hO, hT⟩ := hO0.slice
    clear hO0
    by_cases hlt : i < s.size
    · have HO := Lib.hid hO
      have HR := Lib.hid (rest_at hlt)
      have hfew := hO.few
      have HW := Lib.hid (opens_ways s i hlt)
      obtain ⟨op, hop⟩ : ∃ op, op = opens (s.data.toList.drop i) := ⟨_, rfl⟩
      go_upto_region 6 with fail
      go_cut [40] (fun tv wx => tv = .bool op.isSome ∧ wx = wr)
      case first =>
        clear hT hfew
        rcases HW.out with ⟨ho, e1⟩ | ⟨ho, e1, e2⟩ | ⟨hl1, ⟨ho, e1, e2, e3⟩ | ⟨ho, e1, e2, e3⟩ | ⟨ho, e1, e2, e3⟩⟩
        all_goals (
          rw [ho] at hop
          subst hop
          clear ho HW
          go_wp2
          go_meet
          exact ⟨rfl, rfl⟩)
      case rest =>
        obtain ⟨rfl, hw⟩ := hcut
        have hw' := hw.symm
        subst hw'
        rcases HW.out with ⟨ho, _⟩ | ⟨ho, _⟩ | ⟨hl1, ⟨ho, _⟩ | ⟨ho, _, e2, e3⟩ | ⟨ho, _, e2, e3⟩⟩
        iterate 3
          · have HP := Lib.hid ho
            rw [ho] at hop
            subst hop
            clear ho HW hO
            cases st with
            | nil =>
              clear hT
              go_wp2
              go_quiet (fail)
              have hO9 := HO.out.drew nq
              obtain ⟨v0, cw, fw⟩ := hO9.cell hlt
              have hN := hO9.plain hlt HR.out HP.out (by simp)
              rw [show decide (([] : List UInt8) = []) = true from rfl] at hN
              have HN := Lib.hid hN
              clear hO9 hN HO
              generalize wr.drewN nq = wz at cw HN fw ⊢
              go_wp2
              go_roundw
              case rel => exact ⟨i + 1, [], _, hlt, by go_num, HN.out⟩
              case measure => simp [intOf]; omega
            | cons t st =>
              obtain ⟨g, rfl, hcell⟩ := hT t st rfl
              have hfew2 : st.length + 1 ≤ i := hfew
              have hqc2 : st.length + 1 ≤ qc := hqc
              clear hT hfew hqc
              by_cases hc : s[i].toNat = t.toNat
              · have e8 : ((s[i].toNat : Int) == (t.toNat : Int)) = true := by simp; omega
                have HC : Hid (s[i] = t) := UInt8.toNat_inj.1 hc
                clear hc
                go_wp2
                go_quiet (fail)
                have HN := Lib.hid ((HO.out.drew nq).close (by rw [HR.out, HC.out]) HP.out)
                clear HO hcell
                generalize wr.drewN nq = wz at HN ⊢
                go_wp2
                go_roundw
                case rel => exact ⟨i + 1, st, _, hlt, by go_num, HN.out⟩
                case measure => simp [intOf]; omega
              · have e8 : ((s[i].toNat : Int) == (t.toNat : Int)) = false := by simp; omega
                have HC : Hid (¬ (t :: st).head? = some s[i]) := fun e => hc (by cases e; rfl)
                clear hc
                go_wp2
                go_quiet (fail)
                have hO9 := HO.out.drew nq
                obtain ⟨v0, cw, fw⟩ := hO9.cell hlt
                have hN := hO9.plain hlt HR.out HP.out HC.out
                rw [show decide ((t :: st) = []) = false from rfl] at hN
                have HN := Lib.hid hN
                clear hO9 hN HO hcell
                generalize wr.drewN nq = wz at cw HN fw ⊢
                go_wp2
                go_roundw
                case rel => exact ⟨i + 1, t :: st, _, hlt, by go_num, HN.out⟩
                case measure => simp [intOf]; omega
        all_goals (
          obtain ⟨po, pc, w3, hrun, hO3⟩ := hO.open (q := _) (by rw [rest_at hlt, rest_at hl1]) ho (by omega) 77
          have HO3 := Lib.hid hO3
          rw [ho] at hop
          subst hop
          clear hO hT hO3 ho HW HO
          go_wp2_with (first
            | (at_builtin; refine wpList_append_eq rfl _ _ 77 rfl _ _ _ w3 rfl rfl hrun ?_)
            | go_in)
          go_roundw
          case rel => exact ⟨i + 2, _, _, hl1, by go_num, HO3.out⟩
          case measure => simp [intOf]; omega)
    · have HO := Lib.hid hO
      clear hO hT
      go_wp2
      go_ret
      obtain ⟨cs, h1, h2, h3⟩ := HO.out.cells
      refine ⟨rfl, ⟨cs, h1, fun j b hj => ?_⟩, HO.out.back⟩
      have he := HO.out.outs
      rw [rest_end (by omega)] at he
      have e0 : outsL st [] = [] := rfl
      rw [e0, List.append_nil] at he
      rw [he] at hj
      have hjn : j < pre.length := (List.getElem?_eq_some_iff.1 hj).1
      rw [h3 j (by have := HO.out.len; omega), List.getD_eq_getElem?_getD, hj]; rfl
end Go.Proofs.YtbngoodjgijmgaaGreatDoor

namespace Go.Proofs.YtbngoodjgijmgaaGreatDoor
open Go.RowKit Go.Shelf
attribute [local go_sem] Oper.semAt_some

/-- What the loop over the places keeps. -/
def CutAt (sg : List BS) (l : BS) (i : Nat) : Prop :=
  cutOf sg l = (l.take i ++ (cutIdx sg ((outsL [] l).drop i) (l.drop i)).1, (cutIdx sg ((outsL [] l).drop i) (l.drop i)).2.1, (cutIdx sg ((outsL [] l).drop i) (l.drop i)).2.2)
theorem CutAt.start (sg : List BS) (l : BS) : CutAt sg l 0 := by
  unfold CutAt cutOf cutW
  simp
theorem CutAt.step {sg : List BS} {l : BS} {i : Nat} {b : Bool} (h : CutAt sg l i) (hi : i < l.length) (hb : (outsL [] l)[i]? = some b) (hn : b = false ∨ signAt sg (l.drop i) = none) : CutAt sg l (i + 1) := by
  have e1 : l.drop i = l[i] :: l.drop (i + 1) := List.drop_eq_getElem_cons hi
  have e2 : (outsL [] l).drop i = b :: (outsL [] l).drop (i + 1) := by
    obtain ⟨hl, hv⟩ := List.getElem?_eq_some_iff.1 hb
    rw [List.drop_eq_getElem_cons hl, hv]
  have e3 : cutIdx sg ((outsL [] l).drop i) (l.drop i) = Cut3.put l[i] (cutIdx sg ((outsL [] l).drop (i + 1)) (l.drop (i + 1))) := by
    rw [e1] at hn
    rw [e1, e2]
    cases b with
    | false => rfl
    | true =>
      rcases hn with hn | hn
      · cases hn
      · show (match signAt sg (l[i] :: l.drop (i + 1)) with | some x => _ | none => _) = _
        rw [hn]
  unfold CutAt at h ⊢
  rw [h, e3]
  have e4 : ∀ K : BS, l.take (i + 1) ++ K = l.take i ++ l[i] :: K := fun K => by rw [List.take_succ_eq_append_getElem hi, List.append_assoc]; rfl
  rw [e4]; rfl
theorem CutAt.hit {sg : List BS} {l x : BS} {i : Nat} (h : CutAt sg l i) (hi : i < l.length) (hb : (outsL [] l)[i]? = some true) (hx : signAt sg (l.drop i) = some x) : cutOf sg l = (l.take i, x, l.drop (i + x.length)) := by
  have e1 : l.drop i = l[i] :: l.drop (i + 1) := List.drop_eq_getElem_cons hi
  have e2 : (outsL [] l).drop i = true :: (outsL [] l).drop (i + 1) := by
    obtain ⟨hl, hv⟩ := List.getElem?_eq_some_iff.1 hb
    rw [List.drop_eq_getElem_cons hl, hv]
  have e3 : cutIdx sg ((outsL [] l).drop i) (l.drop i) = ([], x, (l.drop i).drop x.length) := by
    rw [e1] at hx ⊢
    rw [e2]
    show (match signAt sg (l[i] :: l.drop (i + 1)) with | some x => _ | none => _) = _
    rw [hx]
  unfold CutAt at h
  rw [h, e3, List.append_nil, List.drop_drop]
theorem CutAt.done {sg : List BS} {l : BS} {i : Nat} (h : CutAt sg l i) (hi : l.length ≤ i) : cutOf sg l = (l, [], []) := by
  unfold CutAt at h
  rw [h, List.drop_eq_nil_of_le hi, List.take_of_length_le hi]
  have : cutIdx sg ((outsL [] l).drop i) [] = ([], [], []) := by unfold cutIdx; rfl
  rw [this, List.append_nil]
/-- Does a sign begin at i? As the tests ask. -/
theorem sign_ways (s : ByteArray) (i : Nat) (x : BS) (hi : i ≤ s.size) :
    (signB (s.data.toList.drop i) x = false ∧ x.length = 0) ∨ (signB (s.data.toList.drop i) x = false ∧ 0 < x.length ∧ ¬ i + x.length ≤ s.size) ∨
    (0 < x.length ∧ i + x.length ≤ s.size ∧ ((s.extract i (i + x.length)).toList == (txt x).toList) = signB (s.data.toList.drop i) x) := by
  by_cases h0 : x = []
  · exact .inl ⟨by unfold signB; rw [h0]; rfl, by rw [h0]; rfl⟩
  · have hp : 0 < x.length := List.length_pos_iff.2 h0
    by_cases hf : i + x.length ≤ s.size
    · refine .inr (.inr ⟨hp, hf, ?_⟩)
      unfold signB
      rw [decide_eq_true h0, Bool.true_and, txt_toL, Lib.toList_data, Lib.extract_data]
      have e : i + x.length - i = x.length := by omega
      rw [e]
      by_cases hx : x <+: s.data.toList.drop i
      · have h2 := List.prefix_iff_eq_take.1 hx
        rw [List.isPrefixOf_iff_prefix.2 hx, ← h2]; simp
      · have h2 : ¬ x = (s.data.toList.drop i).take x.length := fun e => hx (List.prefix_iff_eq_take.2 e)
        have h3 : x.isPrefixOf (s.data.toList.drop i) = false := by
          cases hb : x.isPrefixOf (s.data.toList.drop i) with
          | false => rfl
          | true => exact absurd (List.isPrefixOf_iff_prefix.1 hb) hx
        rw [h3]
        simpa using fun e => h2 e.symm
    · refine .inr (.inl ⟨?_, hp, hf⟩)
      unfold signB
      rw [decide_eq_true h0, Bool.true_and]
      cases hb : x.isPrefixOf (s.data.toList.drop i) with
      | false => rfl
      | true =>
        have := (List.isPrefixOf_iff_prefix.1 hb).length_le
        rw [List.length_drop, size_list] at this
        omega

set_option maxRecDepth 100000 in
set_option maxHeartbeats 8000000 in
theorem cut9_any (v : Value) (sg : List BS) (s : ByteArray) (w : World) (hr : ReadsO w w.heap.size v (sg.map txt)) (hsg : sg.length ≤ 1000) (hsl : ∀ x ∈ sg, x.length ≤ 1000000) (hs : s.size ≤ 1000000) :
    Calls Tryz.prog 56 #[.string s, v] w (Cut3Post (cutOf sg s.data.toList) w) := by
  obtain ⟨o, c, rfl, hx⟩ := hr
  rw [List.length_map] at hx ⊢
  obtain ⟨n, hn⟩ : ∃ n, n = sg.length := ⟨_, rfl⟩
  rw [← hn] at hx hsg ⊢
  have HN := Lib.hid hn
  have HX : Hid (∀ k x, sg[k]? = some x → ∃ b f, o = some ⟨b, f, none⟩ ∧ n ≤ c ∧ ∀ W, Below w.heap.size w W → W.cell? ⟨b, f + k, none⟩ = some (.string (txt x))) := fun k x hk => by
    obtain ⟨b, f, h1, h2, h3, h4⟩ := hx k (txt x) (by rw [List.getElem?_map, hk]; rfl)
    exact ⟨b, f, h1, h3, fun W hb => (hb.cell (p := ⟨b, f + k, none⟩) h2).trans h4⟩
  have HL := Lib.hid hsl
  clear hx hn hsl
  go_enter Tryz.func56, Tryz.ntmps56
  go_wp2_with fail
  refine (outside9_any s hs w).mono ?_
  rintro e w1 ⟨rfl, ⟨cs, hcs, hcb⟩, hb⟩
  have HO : Hid (∀ W, Below w1.heap.size w1 W → ∀ i b, (outsL [] s.data.toList)[i]? = some b → W.cell? ⟨w.heap.size, i, none⟩ = some (.bool b)) := fun W hW i b hi => by
    have h1 := (Array.getElem?_eq_some_iff.1 hcs).1
    rw [Lib.cell_of_heap ((hW.block _ h1).trans hcs)]
    exact hcb i b hi
  have HB := Lib.hid hb
  clear hcs hcb hb
  go_wp2
  go_loopw [8] (fun iv wr => ∃ i : Nat, i ≤ s.size ∧ iv = .int .i64 i ∧ CutAt sg s.data.toList i ∧ Below w1.heap.size w1 wr) (fun iv _ => s.size - (intOf iv).toNat)
  case atStart => exact ⟨0, Nat.zero_le _, rfl, CutAt.start _ _, Below.refl _ _⟩
  case round =>
    obtain ⟨i, hi, rfl, hC, hbr⟩ := hrel
    have HC := Lib.hid hC
    have HBr := Lib.hid hbr
    by_cases hlt : i < s.size
    · have hil : i < s.data.toList.length := by rw [size_list]; exact hlt
      obtain ⟨bo, hbo⟩ : ∃ bo, (outsL [] s.data.toList)[i]? = some bo := ⟨_, List.getElem?_eq_getElem (by rw [outs_len]; exact hil)⟩
      have hcell := HO.out _ hbr i bo hbo
      cases bo with
      | false =>
        have HN2 := Lib.hid (hC.step hil hbo (.inl rfl))
        clear hC hbr hbo hil HO HX HL
        go_wp2
        go_roundw
        case rel => exact ⟨i + 1, hlt, by go_num, HN2.out, HBr.out⟩
        case measure => simp [intOf]; omega
      | true =>
        have HN2 : Hid (signAt sg (s.data.toList.drop i) = none → CutAt sg s.data.toList (i + 1)) := fun h => hC.step hil hbo (.inr h)
        have HH : Hid (∀ x, signAt sg (s.data.toList.drop i) = some x → cutOf sg s.data.toList = (s.data.toList.take i, x, s.data.toList.drop (i + x.length))) := fun x h => hC.hit hil hbo h
        clear hC hbr hbo hil HO HC
        go_wp2
        clear hcell
        go_loopw [9] (fun kv wi => ∃ k : Nat, k ≤ n ∧ kv = .int .i64 k ∧ (∀ x ∈ sg.take k, signB (s.data.toList.drop i) x = false) ∧ Below w1.heap.size w1 wi) (fun kv _ => n - (intOf kv).toNat)
        case atStart => exact ⟨0, Nat.zero_le _, rfl, by simp, HBr.out⟩
        case round =>
          obtain ⟨k, hk, rfl, hno, hbi⟩ := hrel
          have HNo := Lib.hid hno
          have HBi := Lib.hid hbi
          by_cases hkn : k < n
          · obtain ⟨x, hxk⟩ : ∃ x, sg[k]? = some x := ⟨sg[k]'(by rw [← HN.out]; exact hkn), List.getElem?_eq_getElem _⟩
            obtain ⟨b, f, rfl, hnc, hcx⟩ := HX.out k x hxk
            have hcell := hcx _ (HB.out.trans (hbi.mono HB.out.size))
            have hxl : x.length ≤ 1000000 := HL.out x (List.mem_of_getElem? hxk)
            have HNx : Hid (signB (s.data.toList.drop i) x = false → ∀ y ∈ sg.take (k + 1), signB (s.data.toList.drop i) y = false) := fun hf y hy => by
              rw [List.take_add_one, hxk] at hy
              rcases List.mem_append.1 hy with hy | hy
              · exact HNo.out y hy
              · simp at hy; rw [hy]; exact hf
            have HHx : Hid (signB (s.data.toList.drop i) x = true → cutOf sg s.data.toList = (s.data.toList.take i, x, s.data.toList.drop (i + x.length))) := fun ht => HH.out x (sign_first hxk HNo.out ht)
            have hw := sign_ways s i x hi
            clear hno hbi HH HN2 HX HL hcx hxk
            rcases hw with ⟨hf, h0⟩ | ⟨hf, hp, hnf⟩ | ⟨hp, hfit, heq⟩
            · have HF := Lib.hid (HNx.out hf)
              have d0 : decide ((0 : Int) < (x.length : Int)) = false := decide_eq_false (by omega)
              have g0 : ¬ 0 < x.length := by omega
              clear hf h0 HNx HHx
              go_wp2
              go_quiet (fail)
              have hb9 := drewN_below w1.heap.size wr nq
              have HB9 := Lib.hid (HBi.out.trans hb9)
              clear hb9 hcell HBi
              generalize wr.drewN nq = wz at HB9 ⊢
              go_wp2
              go_roundw
              case rel => exact ⟨k + 1, hkn, by go_num, HF.out, HB9.out⟩
              case measure => simp [intOf]; omega
            · have HF := Lib.hid (HNx.out hf)
              have d1 : decide ((i : Int) + (x.length : Int) ≤ (s.size : Int)) = false := decide_eq_false (by omega)
              have d0 : decide ((0 : Int) < (x.length : Int)) = true := decide_eq_true (by omega)
              clear hf HNx HHx
              go_wp2
              go_quiet (fail)
              have hb9 := drewN_below w1.heap.size wr nq
              have HB9 := Lib.hid (HBi.out.trans hb9)
              clear hb9 hcell HBi
              generalize wr.drewN nq = wz at HB9 ⊢
              go_wp2
              go_roundw
              case rel => exact ⟨k + 1, hkn, by go_num, HF.out, HB9.out⟩
              case measure => simp [intOf]; omega
            · have d1 : decide ((i : Int) + (x.length : Int) ≤ (s.size : Int)) = true := decide_eq_true (by omega)
              have d0 : decide ((0 : Int) < (x.length : Int)) = true := decide_eq_true (by omega)
              have c0 : (0 : Int) ≤ (i : Int) + (x.length : Int) := by omega
              have c1 : (i : Int) ≤ (i : Int) + (x.length : Int) := by omega
              have c2 : (i : Int) + (x.length : Int) ≤ (s.size : Int) := by omega
              cases hs2 : signB (s.data.toList.drop i) x with
              | false =>
                rw [hs2] at heq
                have HF := Lib.hid (HNx.out hs2)
                clear hs2 HNx HHx
                go_wp2
                go_quiet (fail)
                have hb9 := drewN_below w1.heap.size wr nq
                have HB9 := Lib.hid (HBi.out.trans hb9)
                clear hb9 hcell HBi
                generalize wr.drewN nq = wz at HB9 ⊢
                go_wp2
                go_roundw
                case rel => exact ⟨k + 1, hkn, by go_num, HF.out, HB9.out⟩
                case measure => simp [intOf]; omega
              | true =>
                rw [hs2] at heq
                have HE := Lib.hid (HHx.out hs2)
                clear hs2 HNx HHx
                go_wp2
                go_quiet (fail)
                have hb9 := drewN_below w1.heap.size wr nq
                have HB9 := Lib.hid (HBi.out.trans hb9)
                have hcell9 : (wr.drewN nq).cell? ⟨b, f + k, none⟩ = some (.string (txt x)) := hcell
                clear hb9 hcell HBi
                generalize wr.drewN nq = wz at HB9 hcell9 ⊢
                go_wp2
                go_quiet (fail)
                go_wp2
                go_ret3
                refine ⟨?_, HB.out.trans ((HB9.out.trans (drewN_below _ _ _)).mono HB.out.size)⟩
                have e1 : txt (s.data.toList.take i) = s.extract 0 i := by rw [extract_txt]; simp
                have e2 : txt (s.data.toList.drop (i + x.length)) = s.extract (i + x.length) s.size := by rw [extract_txt, take_rest]
                rw [HE.out]
                show _ = Ending.returned (.tuple #[.string (txt (s.data.toList.take i)), .string (txt x), .string (txt (s.data.toList.drop (i + x.length)))])
                rw [e1, e2]
                rfl
          · have HE := Lib.hid (HN2.out (sign_none (fun x hx => HNo.out x (by rw [List.take_of_length_le (by rw [← HN.out]; omega)]; exact hx))))
            clear hno hbi HH HN2 HX HL
            go_wp2
            go_roundw
            case rel => exact ⟨i + 1, hlt, by go_num, HE.out, HBi.out⟩
            case measure => simp [intOf]; omega
    · have HE := Lib.hid (hC.done (by rw [size_list]; omega))
      clear hC hbr HO HX HL HC
      go_wp2
      go_ret3
      refine ⟨?_, HB.out.trans (HBr.out.mono HB.out.size)⟩
      rw [HE.out, txt_toList]; rfl
end Go.Proofs.YtbngoodjgijmgaaGreatDoor
