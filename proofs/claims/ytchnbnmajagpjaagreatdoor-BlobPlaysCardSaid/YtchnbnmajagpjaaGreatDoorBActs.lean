/-
  A row of layer 7's acts that came in reads as such, and reads so behind the call; the statements' own small.
-/
import Derived.Deep.QuietTactic
import Derived.BigQuiet
import Derived.ChangeArms
import Derived.Deep.Slices
import Derived.ProofKit
import Derived.Carry
import Derived.OpenShut
import Derived.RangeFuncRecord
import Derived.Maps.AppendAt
import Derived.Test.YtchnbnmajagpjaaGreatDoorKIn
namespace Go.Proofs.YtchnbnmajagpjaaGreatDoor
open Go.ChangeShapes Go.WideShapes Go.ChangeAt Go.RowKit Go.Shelf Go.Maps

structure ActB where
  op : Int
  n : Int
  m : Int
  text : ByteArray
  lv : Value
  xs : List ByteArray
def abCells (a : ActB) : List Value := [.int .i64 a.op, .int .i64 a.n, .int .i64 a.m, .string a.text, a.lv]
/-- An act that lies in memory. -/
structure ABW (a : ActB) : Prop where
  op : -9223372036854775808 ≤ a.op ∧ a.op ≤ 9223372036854775807
  n : -9223372036854775808 ≤ a.n ∧ a.n ≤ 9223372036854775807
  m : -9223372036854775808 ≤ a.m ∧ a.m ≤ 9223372036854775807
  text : a.text.size ≤ maxLen
  len : a.xs.length ≤ maxLen
  rows : ∀ x ∈ a.xs, x.size ≤ maxLen
def ActsB (W : World) (B : Nat) (v : Value) (al : List ActB) : Prop :=
  ∃ o c, v = .slice o al.length c ∧ ∀ j x, al[j]? = some x → ∃ b f, o = some ⟨b, f, none⟩ ∧ b < B ∧ al.length ≤ c ∧ (∀ i, i < 5 → W.cell? ⟨b, f + j * 5 + i, none⟩ = (abCells x)[i]?) ∧ ReadsO W B x.lv x.xs
theorem ActsB.below {W W' : World} {B B' : Nat} {v : Value} {al : List ActB} (h : ActsB W B v al) (hb : Below B W W') (hB : B ≤ B') : ActsB W' B' v al := by
  obtain ⟨o, c, hv, hx⟩ := h
  refine ⟨o, c, hv, fun j x hj => ?_⟩
  obtain ⟨b, f, h1, h2, h3, h4, h6⟩ := hx j x hj
  refine ⟨b, f, h1, by omega, h3, fun i hi => ?_, h6.below hb hB⟩
  have h5 := h4 i hi
  obtain ⟨u, hu⟩ : ∃ u, (abCells x)[i]? = some u := ⟨_, List.getElem?_eq_getElem (by simpa [abCells] using hi)⟩
  rw [hu] at h5 ⊢
  exact (hb.cell (p := ⟨b, f + j * 5 + i, none⟩) h2).trans h5
def ActCellsB (W : World) (b f : Nat) (k : Nat) (a : ActB) : Prop :=
  W.cell? ⟨b, f + k * 5, none⟩ = some (.int .i64 a.op) ∧ W.cell? ⟨b, f + k * 5 + 1, none⟩ = some (.int .i64 a.n) ∧ W.cell? ⟨b, f + k * 5 + 2, none⟩ = some (.int .i64 a.m) ∧ W.cell? ⟨b, f + k * 5 + 3, none⟩ = some (.string a.text) ∧ W.cell? ⟨b, f + k * 5 + 4, none⟩ = some a.lv
theorem actsB_at {w : World} {o : Option Addr} {n c : Nat} {al : List ActB} (h : ActsB w w.heap.size (.slice o n c) al) {k : Nat} {a : ActB} (hk : al[k]? = some a) :
    ∃ b f, o = some ⟨b, f, none⟩ ∧ k < c ∧ (∀ W, Below w.heap.size w W → ActCellsB W b f k a) ∧ ReadsO w w.heap.size a.lv a.xs := by
  obtain ⟨o', c', hv, hx⟩ := id h
  cases hv
  have hkl := (List.getElem?_eq_some_iff.1 hk).1
  obtain ⟨b, f, h1, h2, h3, h4, h6⟩ := hx k a hk
  refine ⟨b, f, h1, by omega, fun W hb => ?_, h6⟩
  obtain ⟨o2, c2, hv2, hx2⟩ := h.below hb (Nat.le_refl _)
  cases hv2
  obtain ⟨b', f', q1, q2, q3, q4, _⟩ := hx2 k a hk
  rw [h1] at q1
  cases q1
  exact ⟨q4 0 (by omega), q4 1 (by omega), q4 2 (by omega), q4 3 (by omega), q4 4 (by omega)⟩

/-! ### as they came in -/
theorem actsB_cells : Tryz.prog.cellsOf 41 = 5 := by kernel_rfl
theorem cellsJ_at {W : World} {x : Addr} {n : Nat} {cs : List Value} (h : W.cells? 0 x n = some cs) : cs.length = n ∧ ∀ i, i < n → W.cell? (x.add i) = cs[i]? := by
  unfold World.cells? at h
  split at h
  · exact ⟨by simpa using mapM_some_length h, fun i hi => mapM_some_get h i i (by simp [hi])⟩
  · cases h

theorem strs_inner {H : Type} {enc : TypeId × Value → H} {W : World} {n0 : Nat} {cs : List Value} {y : DataW H × List MemPlace}
    (hf : DataW.trod enc Tryz.prog W 0 (fun _ => true) true n0 39 cs = some y) (hlt : ∀ x ∈ y.2, x.block < W.heap.size) :
    ∃ (c : Value) (xs : List ByteArray), cs = [c] ∧ xs.length ≤ maxLen ∧ (∀ x ∈ xs, x.size ≤ maxLen) ∧ ReadsO W W.heap.size c xs := by
  rcases open_strings Tryz.underlying39 Tryz.underlying9 cells_string hf with ⟨hcs, _⟩ | ⟨a', l', c', ss, hcs, _, hl', hm', hz, hxx, hcell, hws⟩
  · exact ⟨_, [], hcs, by simp, by simp, none, 0, rfl, by simp⟩
  · simp only [if_true] at hz
    have hlen' : (ss.take l').length = l' := by rw [List.length_take]; omega
    refine ⟨_, ss.take l', hcs, by omega, fun x hx => hws x (List.mem_of_mem_take hx), some a', c', by rw [hlen'], fun k x hk => ?_⟩
    have hk1 : k < l' := by have := (List.getElem?_eq_some_iff.1 hk).1; omega
    have hk2 : k < ss.length := by omega
    rw [List.getElem?_take_of_lt hk1, List.getElem?_eq_getElem hk2] at hk
    have hc := hcell k hk2
    obtain ⟨b, off, spot⟩ := a'
    have hspot : spot = none := by simpa [Addr.add] using World.cell?_spot (hcell 0 (by omega))
    subst hspot
    refine ⟨b, off, rfl, hlt (.cell b (off + k)) ?_, by omega, ?_⟩
    · rw [hxx]; exact MemPlace.mem_row.2 ⟨k, hk2, rfl⟩
    · rw [add_plain] at hc
      rw [hc, ← Option.some.inj hk]
      simp [List.getD, List.getElem?_eq_getElem hk2]

/-- What one act reads as. -/
def ActBAt (W : World) (x : Addr) (a : ActB) : Prop := ABW a ∧ ReadsO W W.heap.size a.lv a.xs ∧ ∀ i, i < 5 → W.cell? (x.add i) = (abCells a)[i]?

set_option maxRecDepth 100000 in
theorem actB_open {H : Type} {enc : TypeId × Value → H} {W : World} {n : Nat} {x : Addr} {cs : List Value} {y : DataW H × List MemPlace} (hc : W.cells? 0 x 5 = some cs) (h : DataW.trod enc Tryz.prog W 0 (fun _ => true) true n 41 cs = some y) (hlt : ∀ x ∈ y.2, x.block < W.heap.size) : ∃ a, ActBAt W x a := by
  obtain ⟨hl, hcell⟩ := cellsJ_at hc
  obtain ⟨xs, m, _, hy, _, hlen, hf⟩ := DataW.trod_struct Tryz.underlying41 h
  obtain ⟨y0, y1, y2, y3, y4, rfl⟩ : ∃ y0 y1 y2 y3 y4, xs = [y0, y1, y2, y3, y4] := by
    match xs, hlen with
    | [y0, y1, y2, y3, y4], _ => exact ⟨y0, y1, y2, y3, y4, rfl⟩
  obtain ⟨c0, c1, c2, c3, c4, rfl⟩ : ∃ c0 c1 c2 c3 c4, cs = [c0, c1, c2, c3, c4] := by
    match cs, hl with
    | [c0, c1, c2, c3, c4], _ => exact ⟨c0, c1, c2, c3, c4, rfl⟩
  have h0 := hf 0 _ rfl
  have h1 := hf 1 _ rfl
  have h2 := hf 2 _ rfl
  have h3 := hf 3 _ rfl
  have h4 := hf 4 _ rfl
  simp only [List.getElem?_cons_zero, List.getElem?_cons_succ] at h0 h1 h2 h3 h4
  obtain ⟨i0, q0, _, w0⟩ := DataW.trod_int Tryz.underlying3 h0
  obtain ⟨i1, q1, _, w1⟩ := DataW.trod_int Tryz.underlying3 h1
  obtain ⟨i2, q2, _, w2⟩ := DataW.trod_int Tryz.underlying3 h2
  obtain ⟨s3, q3, _, w3⟩ := DataW.trod_string Tryz.underlying9 h3
  obtain ⟨lv, ls, q4, w4, w6, w7⟩ := strs_inner h4 (fun p hp => hlt p (by rw [hy]; exact List.mem_flatMap.2 ⟨y4, by simp, hp⟩))
  cases q0; cases q1; cases q2; cases q3; cases q4
  exact ⟨⟨i0, i1, i2, s3, c4, ls⟩, ⟨bounds_i64 w0, bounds_i64 w1, bounds_i64 w2, w3, w4, w6⟩, w7, hcell⟩

set_option maxRecDepth 100000 in
theorem open_acts {H : Type} {enc : TypeId × Value → H} {W : World} {base : Nat} {v : Value} {d : DataW H} {ps : List MemPlace}
    (hv : Value.okWide Tryz.prog W .any base 22 v) (h : DataW.Trod enc Tryz.prog W 0 (fun _ => true) true 22 v d ps) (hlt : ∀ x ∈ ps, x.block < W.heap.size) :
    (∃ al : List ActB, al.length ≤ maxLen ∧ (∀ a ∈ al, ABW a) ∧ ActsB W W.heap.size v al) ∧
    ∀ W', Below W.heap.size W W' → DataW.Trod enc Tryz.prog W' 0 (fun b => decide (b < W.heap.size)) true 22 v d ps := by
  refine ⟨?_, fun W' hb => Below.trod laid_out (by kernel_rfl) (of_decide_eq_true (by kernel_rfl)) h hb hlt⟩
  obtain ⟨a0, len, cap, rfl⟩ := okWide_slice Tryz.underlying22 hv
  obtain ⟨fuel, hf⟩ := h
  rcases DataW.trod_slice Tryz.underlying22 hf with ⟨hcs, hx⟩ | ⟨a, len', cap', elems, rest, n, _, hcs, hx, _, hl, hm, hlen, hel, hsp, _⟩
  · simp [Value.cells] at hcs
    obtain ⟨rfl, rfl, rfl⟩ := hcs
    exact ⟨[], by simp, by simp, none, 0, rfl, by simp⟩
  · simp [Value.cells] at hcs
    obtain ⟨rfl, rfl, rfl⟩ := hcs
    simp only [Prod.mk.injEq] at hx
    obtain ⟨rfl, rfl⟩ := hx
    have hrow : ∀ j, j < (elems.length + rest.length) * Tryz.prog.cellsOf 41 → a.block < W.heap.size := by
      intro j hj
      exact hlt (.cell a.block (a.off + j)) (List.mem_append_left _ (MemPlace.mem_row.2 ⟨j, hj, rfl⟩))
    have each : ∀ i, i < len → ∃ x, ActBAt W (a.add (i * 5)) x := by
      intro i hi
      have hy := hel i hi
      have hie : i < elems.length := by omega
      rw [List.getElem?_eq_getElem hie, actsB_cells, Option.bind_eq_some_iff] at hy
      obtain ⟨cs, hc1, hc2⟩ := hy
      exact actB_open hc1 hc2 (fun p hp => hlt p (List.mem_append_right _ (List.mem_flatMap.2 ⟨elems[i], by simp, hp⟩)))
    obtain ⟨f, hf⟩ : ∃ f : Nat → ActB, ∀ i, i < len → ActBAt W (a.add (i * 5)) (f i) := by
      classical
      exact ⟨fun i => if h : i < len then Classical.choose (each i h) else ⟨0, 0, 0, ⟨#[]⟩, .bool false, []⟩, fun i hi => by simp only [hi, dif_pos]; exact Classical.choose_spec (each i hi)⟩
    refine ⟨(List.range len).map f, by simp; omega, ?_, some a, cap, by simp, ?_⟩
    · intro l hl2
      obtain ⟨i, hi, rfl⟩ := List.mem_map.1 hl2
      exact (hf i (List.mem_range.1 hi)).1
    · intro i x hi
      rw [List.getElem?_map] at hi
      have hil : i < len := by
        cases hr : (List.range len)[i]? with
        | none => rw [hr] at hi; cases hi
        | some j => have := (List.getElem?_eq_some_iff.1 hr).1; simpa using this
      rw [List.getElem?_range hil] at hi
      cases hi
      have h1 := (hf i hil).2.2
      have h2 := (hf i hil).2.1
      obtain ⟨b, off, spot⟩ := a
      have h0 := (hf 0 (by omega)).2.2 0 (by omega)
      have hspot : spot = none := by
        rw [show (abCells (f 0))[0]? = some (.int .i64 (f 0).op) from rfl] at h0
        simpa [Addr.add] using World.cell?_spot h0
      subst hspot
      refine ⟨b, off, rfl, hrow 0 (by rw [actsB_cells, hlen]; omega), by simp; omega, fun j hj => ?_, h2⟩
      have := h1 j hj
      rw [add_plain, add_plain] at this
      rw [← this]

/-! ### small -/
def fitA (a : ActB) : Bool := decide (a.text.size ≤ 4500) && (decide (a.xs.length ≤ 45) && a.xs.all fun x => decide (x.size ≤ 60))
def smallA (al : List ActB) : Bool := decide (al.length ≤ 40) && al.all fitA
/-- An act that can be gone through. -/
structure ABOk (a : ActB) : Prop extends ABW a where
  text1 : a.text.size ≤ 4500
  len1 : a.xs.length ≤ 45
  rows1 : ∀ x ∈ a.xs, x.size ≤ 60
theorem smallA_ok {al : List ActB} (h : smallA al = true) (hw : ∀ a ∈ al, ABW a) : al.length ≤ 40 ∧ ∀ a ∈ al, ABOk a := by
  simp only [smallA, Bool.and_eq_true, decide_eq_true_eq, List.all_eq_true, fitA] at h
  exact ⟨h.1, fun a ha => ⟨hw a ha, (h.2 a ha).1, (h.2 a ha).2.1, (h.2 a ha).2.2⟩⟩
theorem smallA_no {al : List ActB} {a : ActB} (h : a ∈ al) (ht : fitA a = false) : smallA al = false := by
  unfold smallA
  rw [show al.all fitA = false from by rw [List.all_eq_false]; exact ⟨a, h, by simp [ht]⟩, Bool.and_false]

set_option maxRecDepth 100000 in
set_option maxHeartbeats 4000000 in
theorem smallA_any (v : Value) (al : List ActB) (w : World) (hr : ActsB w w.heap.size v al) (hn : al.length ≤ maxLen) (hw : ∀ a ∈ al, ABW a) : Calls Tryz.prog 9 #[v] w fun e w' => e = .returned (.bool (smallA al)) ∧ w = w' := by
  unfold maxLen at hn
  obtain ⟨o, c, rfl, hx⟩ := hr
  have HX := Lib.hid hx
  have HZ := Lib.hid hw
  clear hx hw
  by_cases h40 : 40 < al.length
  · have e1 : decide (40 < (al.length : Int)) = true := by simp; omega
    have HN : Hid (smallA al = false) := by show _ = _; simp [smallA]; omega
    clear HZ
    go_enter Tryz.func9, Tryz.ntmps9
    go_wp2
    go_ret
    exact ⟨by rw [HN.out]; rfl, rfl⟩
  have e1 : decide (40 < (al.length : Int)) = false := by simp; omega
  go_enter Tryz.func9, Tryz.ntmps9
  go_wp2
  go_loop [3] (fun i => ∃ k : Nat, k ≤ al.length ∧ i = .int .i64 k ∧ Hid (∀ a ∈ al.take k, fitA a = true)) (fun i => al.length - (intOf i).toNat)
  case atStart => exact ⟨0, Nat.zero_le _, rfl, by intro a ha; simp at ha⟩
  case round =>
    obtain ⟨k, hk, rfl, HM⟩ := hrel
    by_cases hlt : k < al.length
    · obtain ⟨b, f, rfl, _, hkc, hcell, hrd⟩ := HX.out k al[k] (List.getElem?_eq_getElem hlt)
      have hkc' : k < c := by omega
      have hxz := HZ.out al[k] (List.getElem_mem hlt)
      have hmem : al[k] ∈ al := List.getElem_mem hlt
      have e3 := hcell 3 (by omega)
      have e4 := hcell 4 (by omega)
      have HS : Hid (fitA al[k] = true → ∀ a ∈ al.take (k + 1), fitA a = true) := by
        intro h a ha
        rw [List.take_succ_eq_append_getElem hlt] at ha
        rcases List.mem_append.1 ha with ha | ha
        · exact HM.out a ha
        · simp at ha; rw [ha]; exact h
      have HN : Hid (fitA al[k] = false → smallA al = false) := fun h => smallA_no hmem h
      have p1 := hxz.text
      have p2 := hxz.len
      have HR := Lib.hid hxz.rows
      unfold maxLen at p1 p2
      clear hcell hxz hmem HM
      generalize al[k] = a at *
      obtain ⟨op, an, am, tx, lv, xs⟩ := a
      simp only [abCells, List.getElem?_cons_succ, List.getElem?_cons_zero] at e3 e4 p1 p2 hrd
      obtain ⟨lo, lc, rfl, hxs⟩ := hrd
      have HXS := Lib.hid hxs
      clear hxs
      have hi5 : (k : Int) < (al.length : Int) := by omega
      have hi6 : (0 : Int) ≤ (k : Int) := by omega
      by_cases hp : 4500 < tx.size
      · have d1 : decide (4500 < (tx.size : Int)) = true := by simp; omega
        have HN2 : Hid (smallA al = false) := HN.out (by simp [fitA]; omega)
        go_wp2
        go_ret
        exact ⟨by rw [HN2.out]; rfl, rfl⟩
      · have d1 : decide (4500 < (tx.size : Int)) = false := by simp; omega
        by_cases ht : 45 < xs.length
        · have d2 : decide (45 < (xs.length : Int)) = true := by simp; omega
          have HN2 : Hid (smallA al = false) := HN.out (by simp [fitA]; omega)
          go_wp2
          go_ret
          exact ⟨by rw [HN2.out]; rfl, rfl⟩
        · have d2 : decide (45 < (xs.length : Int)) = false := by simp; omega
          go_wp2
          go_loop [4] (fun i => ∃ j : Nat, j ≤ xs.length ∧ i = .int .i64 j ∧ Hid ((xs.take j).all (fun x => decide (x.size ≤ 60)) = true)) (fun i => xs.length - (intOf i).toNat)
          case atStart => exact ⟨0, Nat.zero_le _, rfl, by show _ = _; simp⟩
          case round =>
            obtain ⟨j, hj, rfl, HJ⟩ := hrel
            by_cases hlt2 : j < xs.length
            · obtain ⟨b2, f2, rfl, _, hjc, hcell2⟩ := HXS.out j xs[j] (List.getElem?_eq_getElem hlt2)
              have hjc' : j < lc := by omega
              have hj5 : (j : Int) < (xs.length : Int) := by omega
              have hj6 : (0 : Int) ≤ (j : Int) := by omega
              have hxz := HR.out xs[j] (List.getElem_mem hlt2)
              unfold maxLen at hxz
              by_cases h60 : 60 < xs[j].size
              · have e5 : decide (60 < (xs[j].size : Int)) = true := by simp; omega
                have HN2 : Hid (smallA al = false) := HN.out (by
                  have : xs.all (fun x => decide (x.size ≤ 60)) = false := by
                    rw [List.all_eq_false]; exact ⟨xs[j], List.getElem_mem hlt2, by simp; omega⟩
                  simp [fitA, this])
                generalize xs[j] = x at *
                go_wp2
                go_ret
                exact ⟨by rw [HN2.out]; rfl, rfl⟩
              · have e5 : decide (60 < (xs[j].size : Int)) = false := by simp; omega
                have HN2 : Hid ((xs.take (j + 1)).all (fun x => decide (x.size ≤ 60)) = true) := by
                  show _ = _
                  rw [List.take_succ_eq_append_getElem hlt2, List.all_append, HJ.out]
                  simp; omega
                generalize xs[j] = x at *
                go_wp2
                go_round
                case rel => exact ⟨j + 1, hlt2, by go_num, HN2⟩
                case measure => simp [intOf]; omega
            · have HS2 : Hid (∀ a ∈ al.take (k + 1), fitA a = true) := HS.out (by
                have := HJ.out
                rw [List.take_of_length_le (by omega)] at this
                simp only [fitA, this, Bool.and_true, Bool.and_eq_true, decide_eq_true_eq]; omega)
              go_wp2
              go_round
              case rel => exact ⟨k + 1, hlt, by go_num, HS2⟩
              case measure => simp [intOf]; omega
    · have HN : Hid (smallA al = true) := by
        have := HM.out
        rw [List.take_of_length_le (by omega)] at this
        show _ = _
        simp only [smallA, Bool.and_eq_true, decide_eq_true_eq, List.all_eq_true]
        exact ⟨by omega, this⟩
      go_wp2
      go_ret
      exact ⟨by rw [HN.out]; rfl, rfl⟩
theorem smallA_at {w : World} {v : Value} {al : List ActB} (hr : ActsB w w.heap.size v al) (hn : al.length ≤ maxLen) (hw : ∀ a ∈ al, ABW a) (W : World) (hb : Below w.heap.size w W) :
    Calls Tryz.prog 9 #[v] W fun e w' => e = .returned (.bool (smallA al)) ∧ W = w' :=
  smallA_any v al W (hr.below hb hb.size) hn hw

end Go.Proofs.YtchnbnmajagpjaaGreatDoor
