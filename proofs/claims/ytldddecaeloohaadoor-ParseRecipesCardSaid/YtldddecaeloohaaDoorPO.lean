/-
  What the document's own outside answers: of each byte, is it outside; for every text of at most a million bytes. No condition.
-/
import Derived.Deep.QuietTactic
import Derived.Deep.DeepCutAuto
import Derived.Deep.CutBlock
import Derived.Deep.OwnRows
import Derived.BigQuiet
import Derived.Test.YtldddecaeloohaaDoorPR8
import Derived.Test.YtldddecaeloohaaDoorPM
import Derived.Test.YtldddecaeloohaaDoorETog
namespace Go.Proofs.YtldddecaeloohaaDoor
open Go.RowKit Go.Shelf
attribute [local go_sem] Oper.semAt_some

abbrev encU (c : UInt8) : List Value := [.int .u8 (c.toNat : Int)]
theorem rowBytes : RowT 72 5 1 :=
  rowT_of (.int .u8 0) 1 Tryd.underlying72 (by kernel_rfl) (by decide) rfl (by decide)
/-- The answer's block: ahead of i what is outside, behind it nothing yet. -/
def OutB (w : World) (ob n : Nat) (pre : List Bool) : Prop :=
  ∃ cs, w.heap[ob]? = some (.cells cs 4 (0, 0)) ∧ cs.size = n ∧ ∀ j, j < n → cs[j]? = some (.bool (pre.getD j false))
/-- What the loop keeps: what is open, the last one behind. -/
structure OutAt (w0 : World) (l : BS) (n i : Nat) (st : List UInt8) (pre : List Bool) (wr : World) (sv : Value) : Prop where
  back : Below w0.heap.size w0 wr
  outs : outsL [] l = pre ++ outsL st (l.drop i)
  len : pre.length = i
  few : st.length ≤ i
  cells : OutB wr w0.heap.size n pre
  row : RowR 5 1 encU wr (fun g => w0.heap.size < g ∧ g < wr.heap.size) sv st.reverse
theorem OutB.kept {w w' : World} {ob n : Nat} {pre : List Bool} {X : Nat → Prop} (h : OutB w ob n pre) (hT : Turned X w w') (hx : ¬ X ob) : OutB w' ob n pre := by
  obtain ⟨cs, h1, h2, h3⟩ := h
  exact ⟨cs, (hT.block ob (Array.getElem?_eq_some_iff.1 h1).1 hx).trans h1, h2, h3⟩
theorem OutB.more {w : World} {ob n : Nat} {pre : List Bool} (h : OutB w ob n pre) (k : Nat) : OutB w ob n (pre ++ List.replicate k false) := by
  obtain ⟨cs, h1, h2, h3⟩ := h
  refine ⟨cs, h1, h2, fun j hj => ?_⟩
  rw [h3 j hj]
  congr 2
  simp only [List.getD_eq_getElem?_getD, List.getElem?_append]
  split
  · rfl
  · rename_i hjp
    rw [List.getElem?_eq_none (by omega), List.getElem?_replicate]
    split <;> rfl
theorem OutB.set {w : World} {ob n : Nat} {pre : List Bool} (h : OutB w ob n pre) (b : Bool) (hl : pre.length < n) : OutB (w.setCell ⟨ob, pre.length, none⟩ (.bool b)) ob n (pre ++ [b]) := by
  obtain ⟨cs, h1, h2, h3⟩ := h
  refine ⟨cs.set! pre.length (.bool b), by simp [World.setCell, Array.getElem?_modify, h1], by simp [h2], fun j hj => ?_⟩
  rw [Array.set!_eq_setIfInBounds, Array.getElem?_setIfInBounds]
  by_cases hjp : pre.length = j
  · subst hjp
    rw [if_pos rfl, if_pos (by omega)]
    simp
  · rw [if_neg hjp, h3 j hj]
    congr 2
    simp only [List.getD_eq_getElem?_getD, List.getElem?_append]
    split
    · rfl
    · rw [List.getElem?_eq_none (by omega), List.getElem?_eq_none (by simp; omega)]
/-- The last one taken off: the slice is shorter by one. -/
theorem RowR.shrink {α : Type} {E : TypeId} {k : Nat} {enc : α → List Value} {w : World} {P : Nat → Prop} {o : Option Addr} {n c : Nat} {l : List α} {x : α} (hk : ∀ x, (enc x).length = k) (h : RowR E k enc w P (.slice o (n + 1) c) (l ++ [x])) : RowR E k enc w P (.slice o n c) l ∧ n = l.length := by
  have hlen : (l.flatMap enc).length = l.length * k := by
    have h0 := h.1.1
    have e2 : (([x] : List α).flatMap enc).length = k := by simp [hk]
    rw [List.flatMap_append, List.length_append, e2, List.length_append, Nat.add_mul] at h0
    have e3 : ([x] : List α).length * k = k := by simp
    omega
  rcases h.1.2 with ⟨hv, _⟩ | ⟨g, cap, cur, hv, h1, h2, h3, h4, h5, h6⟩
  · simp at hv
  · simp only [Value.slice.injEq] at hv
    obtain ⟨ho, hn1, hc⟩ := hv
    have hn : n = l.length := by simp at hn1; omega
    have hle : l.length * k ≤ (l ++ [x]).length * k := Nat.mul_le_mul_right _ (by simp)
    refine ⟨⟨⟨hlen, .inr ⟨g, cap, cur, by rw [hn, ho, hc], h1, h2, by simp at h3; omega, h4, h5, ?_⟩⟩, fun g hg => h.2 g (by cases o <;> exact hg)⟩, hn⟩
    have e : cur.toList.take (l.length * k) = (cur.toList.take ((l ++ [x]).length * k)).take (l.length * k) := by
      rw [List.take_take, Nat.min_eq_left hle]
    rw [e, h6, List.flatMap_append, List.take_append_of_le_length (by rw [hlen]; exact Nat.le_refl _), List.take_of_length_le (by rw [hlen]; exact Nat.le_refl _)]
section
variable {w0 wr w' : World} {l : BS} {n i : Nat} {st : List UInt8} {pre : List Bool} {sv : Value}
theorem OutAt.slice (h : OutAt w0 l n i st pre wr sv) : ∃ o c, sv = .slice o st.length c ∧ st.length ≤ c ∧ OutAt w0 l n i st pre wr (.slice o st.length c) ∧
    (∀ t st', st = t :: st' → ∃ g, o = some ⟨g, 0, none⟩ ∧ wr.cell? ⟨g, st'.length, none⟩ = some (.int .u8 (t.toNat : Int))) := by
  obtain ⟨o, c, hv, h1, h2, h3, h4⟩ := h.row.shape (fun _ => rfl)
  rw [List.length_reverse] at hv h1
  refine ⟨o, c, hv, h1, hv ▸ h, fun t st' hst => ?_⟩
  obtain ⟨g, hg, hx⟩ := h4 st'.length t (by rw [hst, List.reverse_cons, List.getElem?_append_right (by simp)]; simp)
  refine ⟨g, hg, ?_⟩
  have := hx 0 (by omega)
  rw [Nat.mul_one, Nat.add_zero] at this
  exact this
theorem OutAt.drew (h : OutAt w0 l n i st pre wr sv) (m : Nat) : OutAt w0 l n i st pre (wr.drewN m) sv :=
  ⟨⟨h.back.os, h.back.tape, h.back.output, h.back.size, h.back.block⟩, h.outs, h.len, h.few, h.cells, h.row⟩
theorem OutAt.cell (h : OutAt w0 l n i st pre wr sv) (hi : i < n) : ∃ v, wr.cell? ⟨w0.heap.size, i, none⟩ = some v ∧ wr.frozen? ⟨w0.heap.size, i, none⟩ = false := by
  obtain ⟨cs, h1, h2, h3⟩ := h.cells
  exact ⟨_, by rw [Lib.cell_of_heap h1]; exact h3 i hi, Lib.frozen_of_heap h1 i⟩
/-- One that closes. -/
theorem OutAt.close {t : UInt8} {o : Option Addr} {c : Nat} (h : OutAt w0 l n i (t :: st) pre wr (.slice o (st.length + 1) c)) (hd : l.drop i = t :: l.drop (i + 1)) (ho : opens (l.drop i) = none) : OutAt w0 l n (i + 1) st (pre ++ [false]) wr (.slice o st.length c) := by
  refine ⟨h.back, ?_, by simp [h.len], by have := h.few; simp at this; omega, h.cells.more 1, ?_⟩
  · rw [h.outs, hd, outs_close (by rw [← hd]; exact ho) rfl]
    simp
  · have hr := h.row
    rw [List.reverse_cons] at hr
    exact (RowR.shrink (enc := encU) (k := 1) (fun _ => rfl) hr).1
/-- Neither. -/
theorem OutAt.plain {t : UInt8} (h : OutAt w0 l n i st pre wr sv) (hin : i < n) (hd : l.drop i = t :: l.drop (i + 1)) (ho : opens (l.drop i) = none) (ht : ¬ st.head? = some t) :
    OutAt w0 l n (i + 1) st (pre ++ [decide (st = [])]) (wr.setCell ⟨w0.heap.size, i, none⟩ (.bool (decide (st = [])))) sv := by
  have hT := Turned.setCell (X := fun m => m = w0.heap.size) wr ⟨w0.heap.size, i, none⟩ (.bool (decide (st = []))) rfl
  refine ⟨h.back.trans (hT.below h.back.size (fun m hm => by omega)), ?_, by simp [h.len], by have := h.few; omega, ?_, (h.row.kept hT (fun m hm hx => by omega)).wider (fun m hm => ⟨hm.1, Nat.lt_of_lt_of_le hm.2 hT.size⟩)⟩
  · rw [h.outs, hd, outs_plain (by rw [← hd]; exact ho) ht]
    simp
  · have hs := h.cells.set (decide (st = [])) (by rw [h.len]; exact hin)
    rw [h.len] at hs
    exact hs
/-- One that opens. -/
theorem OutAt.open {q d e : UInt8} (h : OutAt w0 l n i st pre wr sv) (hd : l.drop i = d :: e :: l.drop (i + 2)) (ho : opens (l.drop i) = some q) (hi : i < 1099511627776) (ty : TypeId) :
    ∃ o c w', (Builtin.append_ #[72, 72] ty #[sv, .slice (some ⟨wr.heap.size, 0, none⟩) 1 1]).run Tryd.prog (wr.alloc (.cells #[.int .u8 (q.toNat : Int)] 5)) = .ok (.slice o (st.length + 1) c) w' ∧ OutAt w0 l n (i + 2) (q :: st) (pre ++ [false, false]) w' (.slice o (st.length + 1) c) := by
  have hTa : Turned (fun _ => False) wr (wr.alloc (.cells #[.int .u8 (q.toNat : Int)] 5)) := Turned.alloc _ _ _
  have hob : w0.heap.size < wr.heap.size := by
    obtain ⟨cs, h1, _⟩ := h.cells
    exact (Array.getElem?_eq_some_iff.1 h1).1
  have hr1 := (h.row.kept hTa (fun _ _ h => h))
  obtain ⟨v', w', hrun, hR, hT, o, c, rfl⟩ := RowR.push rowBytes hr1 q rfl (by simp [Value.oneCell']) wr.heap.size 1 (0, 0) (World.alloc_heap_new wr _) (by rw [List.length_reverse]; have := h.few; omega) ty
  rw [List.length_reverse] at hrun hR
  have hs := hT.size
  rw [World.size_alloc] at hs hR
  refine ⟨o, c, w', hrun, ⟨(h.back.alloc h.back.size _).trans (hT.below (by have := h.back.size; simp; omega) (fun m hm => by omega)), ?_, by simp [h.len], by have := h.few; simp; omega, ((h.cells.kept hTa id).kept hT (fun hx => by omega)).more 2, ?_⟩⟩
  · rw [h.outs, hd, outs_open (by rw [← hd]; exact ho)]
    simp
  · rw [List.reverse_cons]
    refine hR.tight.wider (fun m hm => ⟨?_, hm.2⟩)
    rcases hm.1 with hm | hm <;> omega
end
theorem rest_at {s : ByteArray} {i : Nat} (h : i < s.size) : s.data.toList.drop i = s[i] :: s.data.toList.drop (i + 1) := by
  have h' : i < s.data.toList.length := by rw [Array.length_toList]; exact h
  rw [List.drop_eq_getElem_cons h', Array.getElem_toList]; rfl
theorem rest_end {s : ByteArray} {i : Nat} (h : s.size ≤ i) : s.data.toList.drop i = [] := List.drop_eq_nil_of_le (by rw [size_list]; exact h)
/-- Does it open here? As the tests ask. -/
theorem opens_ways (s : ByteArray) (i : Nat) (h : i < s.size) :
    (opens (s.data.toList.drop i) = none ∧ ((s[i].toNat : Int) == 36) = false) ∨ (opens (s.data.toList.drop i) = none ∧ ((s[i].toNat : Int) == 36) = true ∧ ¬ i + 1 < s.size) ∨
    (∃ h1 : i + 1 < s.size, (opens (s.data.toList.drop i) = none ∧ ((s[i].toNat : Int) == 36) = true ∧ ((s[i + 1].toNat : Int) == 40) = false ∧ ((s[i + 1].toNat : Int) == 123) = false) ∨
      (opens (s.data.toList.drop i) = some 41 ∧ ((s[i].toNat : Int) == 36) = true ∧ ((s[i + 1].toNat : Int) == 40) = true ∧ ((s[i + 1].toNat : Int) == 123) = false) ∨
      (opens (s.data.toList.drop i) = some 125 ∧ ((s[i].toNat : Int) == 36) = true ∧ ((s[i + 1].toNat : Int) == 40) = false ∧ ((s[i + 1].toNat : Int) == 123) = true)) := by
  have e1 := rest_at h
  by_cases h36 : s[i].toNat = 36
  · have c36 : s[i] = 36 := UInt8.toNat_inj.1 (by rw [h36]; rfl)
    by_cases h1 : i + 1 < s.size
    · have e2 := rest_at h1
      refine .inr (.inr ⟨h1, ?_⟩)
      by_cases h40 : s[i + 1].toNat = 40
      · have c40 : s[i + 1] = 40 := UInt8.toNat_inj.1 (by rw [h40]; rfl)
        refine .inr (.inl ⟨?_, by simp; omega, by simp; omega, by simp; omega⟩)
        rw [e1, e2, c36, c40]; rfl
      · by_cases h123 : s[i + 1].toNat = 123
        · have c123 : s[i + 1] = 123 := UInt8.toNat_inj.1 (by rw [h123]; rfl)
          refine .inr (.inr ⟨?_, by simp; omega, by simp; omega, by simp; omega⟩)
          rw [e1, e2, c36, c123]; rfl
        · refine .inl ⟨?_, by simp; omega, by simp; omega, by simp; omega⟩
          rw [e1, e2]
          show (if s[i] = 36 then (if s[i + 1] = 40 then some 41 else if s[i + 1] = 123 then some 125 else none) else none) = (none : Option UInt8)
          rw [if_pos c36, if_neg (fun e => h40 (by rw [e]; rfl)), if_neg (fun e => h123 (by rw [e]; rfl))]
    · refine .inr (.inl ⟨?_, by simp; omega, h1⟩)
      rw [e1, rest_end (by omega)]; rfl
  · refine .inl ⟨?_, by simp; omega⟩
    rw [e1]
    cases s.data.toList.drop (i + 1) with
    | nil => rfl
    | cons d r =>
      show (if s[i] = 36 then (if d = 40 then some 41 else if d = 123 then some 125 else none) else none) = (none : Option UInt8)
      rw [if_neg (fun e => h36 (by rw [e]; rfl))]
theorem infoBool : (Tryd.prog.info? 4).map (fun i => (i.zero, i.size, i.bytes)) = some (some (.bool false), 1, 1) := by kernel_rfl
def OutPost (l : BS) (n : Nat) (w : World) (e : Ending) (w' : World) : Prop :=
  e = .returned (.slice (some ⟨w.heap.size, 0, none⟩) n n) ∧ (∃ cs, w'.heap[w.heap.size]? = some (.cells cs 4 (0, 0)) ∧ ∀ (j : Nat) b, (outsL [] l)[j]? = some b → cs[j]? = some (.bool b)) ∧ Below w.heap.size w w'

set_option maxRecDepth 100000 in
set_option maxHeartbeats 8000000 in
theorem outside9_any (s : ByteArray) (hs : s.size ≤ 1000000) (w : World) : Calls Tryd.prog 37 #[.string s] w (OutPost s.data.toList s.size w) := by
  have hmk : ∀ w : World, (Instr.makeSlice 57 (.int .i64 (s.size : Int)) (.int .i64 (s.size : Int))).run Tryd.prog w = .ok (.slice (some ⟨w.heap.size, 0, none⟩) s.size s.size) (w.alloc (.cells (madeCells #[.bool false] s.size) 4)) := fun w =>
    run_make_row' 57 4 (.bool false) 1 Tryd.underlying57 infoBool rfl .i64 .i64 s.size (by omega) (by omega) w
  go_enter Tryd.func37, Tryd.ntmps37
  go_wp2
  go_loopw [4, 5] (fun sv iv wr => ∃ (i : Nat) (st : List UInt8) (pre : List Bool), i ≤ s.size ∧ iv = .int .i64 i ∧ OutAt w s.data.toList s.size i st pre wr sv) (fun _ iv _ => s.size - (intOf iv).toNat)
  case atStart =>
    refine ⟨0, [], [], Nat.zero_le _, rfl, (Below.refl _ w).alloc (Nat.le_refl _) _, rfl, rfl, Nat.le_refl _, ⟨_, World.alloc_heap_new w _, size_madeCells _ _, fun j hj => by simp [madeCells, hj, Nat.mod_one]⟩, RowR.nil _ _ _ _ _⟩
  case round =>
    obtain ⟨i, st, pre, hi, rfl, hO0⟩ := hrel
    obtain ⟨qo, qc, rfl, hqc, hO, hT⟩ := hO0.slice
    clear hO0
    by_cases hlt : i < s.size
    · have HO := Lib.hid hO
      have HR := Lib.hid (rest_at hlt)
      have hfew := hO.few
      have HW := Lib.hid (opens_ways s i hlt)
      obtain ⟨op, hop⟩ : ∃ op, op = opens (s.data.toList.drop i) := ⟨_, rfl⟩
      go_upto_region 6 with fail
      go_cut [40] (fun tv wx => tv = .bool op.isSome ∧ wx = wr)
      case first =>
        clear hT hfew
        rcases HW.out with ⟨ho, e1⟩ | ⟨ho, e1, e2⟩ | ⟨hl1, ⟨ho, e1, e2, e3⟩ | ⟨ho, e1, e2, e3⟩ | ⟨ho, e1, e2, e3⟩⟩
        all_goals (
          rw [ho] at hop
          subst hop
          clear ho HW
          go_wp2
          go_meet
          exact ⟨rfl, rfl⟩)
      case rest =>
        obtain ⟨rfl, hw⟩ := hcut
        have hw' := hw.symm
        subst hw'
        rcases HW.out with ⟨ho, _⟩ | ⟨ho, _⟩ | ⟨hl1, ⟨ho, _⟩ | ⟨ho, _, e2, e3⟩ | ⟨ho, _, e2, e3⟩⟩
        iterate 3
          · have HP := Lib.hid ho
            rw [ho] at hop
            subst hop
            clear ho HW hO
            cases st with
            | nil =>
              clear hT
              go_wp2
              go_quiet (fail)
              have hO9 := HO.out.drew nq
              obtain ⟨v0, cw, fw⟩ := hO9.cell hlt
              have hN := hO9.plain hlt HR.out HP.out (by simp)
              rw [show decide (([] : List UInt8) = []) = true from rfl] at hN
              have HN := Lib.hid hN
              clear hO9 hN HO
              generalize wr.drewN nq = wz at cw HN fw ⊢
              go_wp2
              go_roundw
              case rel => exact ⟨i + 1, [], _, hlt, by go_num, HN.out⟩
              case measure => simp [intOf]; omega
            | cons t st =>
              obtain ⟨g, rfl, hcell⟩ := hT t st rfl
              have hfew2 : st.length + 1 ≤ i := hfew
              have hqc2 : st.length + 1 ≤ qc := hqc
              clear hT hfew hqc
              by_cases hc : s[i].toNat = t.toNat
              · have e8 : ((s[i].toNat : Int) == (t.toNat : Int)) = true := by simp; omega
                have HC : Hid (s[i] = t) := UInt8.toNat_inj.1 hc
                clear hc
                go_wp2
                go_quiet (fail)
                have HN := Lib.hid ((HO.out.drew nq).close (by rw [HR.out, HC.out]) HP.out)
                clear HO hcell
                generalize wr.drewN nq = wz at HN ⊢
                go_wp2
                go_roundw
                case rel => exact ⟨i + 1, st, _, hlt, by go_num, HN.out⟩
                case measure => simp [intOf]; omega
              · have e8 : ((s[i].toNat : Int) == (t.toNat : Int)) = false := by simp; omega
                have HC : Hid (¬ (t :: st).head? = some s[i]) := fun e => hc (by cases e; rfl)
                clear hc
                go_wp2
                go_quiet (fail)
                have hO9 := HO.out.drew nq
                obtain ⟨v0, cw, fw⟩ := hO9.cell hlt
                have hN := hO9.plain hlt HR.out HP.out HC.out
                rw [show decide ((t :: st) = []) = false from rfl] at hN
                have HN := Lib.hid hN
                clear hO9 hN HO hcell
                generalize wr.drewN nq = wz at cw HN fw ⊢
                go_wp2
                go_roundw
                case rel => exact ⟨i + 1, t :: st, _, hlt, by go_num, HN.out⟩
                case measure => simp [intOf]; omega
        all_goals (
          obtain ⟨po, pc, w3, hrun, hO3⟩ := hO.open (q := _) (by rw [rest_at hlt, rest_at hl1]) ho (by omega) 72
          have HO3 := Lib.hid hO3
          rw [ho] at hop
          subst hop
          clear hO hT hO3 ho HW HO
          go_wp2_with (first
            | (at_builtin; refine wpList_append_eq rfl _ _ 72 rfl _ _ _ w3 rfl rfl hrun ?_)
            | go_in)
          go_roundw
          case rel => exact ⟨i + 2, _, _, hl1, by go_num, HO3.out⟩
          case measure => simp [intOf]; omega)
    · have HO := Lib.hid hO
      clear hO hT
      go_wp2
      go_ret
      obtain ⟨cs, h1, h2, h3⟩ := HO.out.cells
      refine ⟨rfl, ⟨cs, h1, fun j b hj => ?_⟩, HO.out.back⟩
      have he := HO.out.outs
      rw [rest_end (by omega)] at he
      have e0 : outsL st [] = [] := rfl
      rw [e0, List.append_nil] at he
      rw [he] at hj
      have hjn : j < pre.length := (List.getElem?_eq_some_iff.1 hj).1
      rw [h3 j (by have := HO.out.len; omega), List.getD_eq_getElem?_getD, hj]; rfl
end Go.Proofs.YtldddecaeloohaaDoor
