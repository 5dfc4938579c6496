/-
  A row of layer 6's acts that came in reads as such, and reads so behind the call; the statements' own first and small.
-/
import Derived.Deep.QuietTactic
import Derived.BigQuiet
import Derived.ChangeArms
import Derived.Deep.Slices
import Derived.ProofKit
import Derived.Carry
import Derived.OpenShut
import Derived.RangeFuncRecord
import Derived.Maps.AppendAt
import Derived.Test.YtgnappifekacpaaGreatDoorJLib
namespace Go.Proofs.YtgnappifekacpaaGreatDoor
open Go.ChangeShapes Go.WideShapes Go.ChangeAt Go.RowKit Go.Shelf Go.Maps

structure ActJ where
  op : Int
  n : Int
  m : Int
  name : ByteArray
  lv : Value
  xss : List (List ByteArray)
  text : ByteArray
def ajCells (a : ActJ) : List Value := [.int .i64 a.op, .int .i64 a.n, .int .i64 a.m, .string a.name, a.lv, .string a.text]
/-- An act that lies in memory. -/
structure AJW (a : ActJ) : Prop where
  op : -9223372036854775808 ≤ a.op ∧ a.op ≤ 9223372036854775807
  n : -9223372036854775808 ≤ a.n ∧ a.n ≤ 9223372036854775807
  m : -9223372036854775808 ≤ a.m ∧ a.m ≤ 9223372036854775807
  name : a.name.size ≤ maxLen
  text : a.text.size ≤ maxLen
  len : a.xss.length ≤ maxLen
  rows : ∀ l ∈ a.xss, l.length ≤ maxLen ∧ ∀ x ∈ l, x.size ≤ maxLen
def ActsJ (W : World) (B : Nat) (v : Value) (al : List ActJ) : Prop :=
  ∃ o c, v = .slice o al.length c ∧ ∀ j x, al[j]? = some x → ∃ b f, o = some ⟨b, f, none⟩ ∧ b < B ∧ al.length ≤ c ∧ (∀ i, i < 6 → W.cell? ⟨b, f + j * 6 + i, none⟩ = (ajCells x)[i]?) ∧ ReadsLL W B x.lv x.xss
theorem ActsJ.below {W W' : World} {B B' : Nat} {v : Value} {al : List ActJ} (h : ActsJ W B v al) (hb : Below B W W') (hB : B ≤ B') : ActsJ W' B' v al := by
  obtain ⟨o, c, hv, hx⟩ := h
  refine ⟨o, c, hv, fun j x hj => ?_⟩
  obtain ⟨b, f, h1, h2, h3, h4, h6⟩ := hx j x hj
  refine ⟨b, f, h1, by omega, h3, fun i hi => ?_, h6.below hb hB⟩
  have h5 := h4 i hi
  obtain ⟨u, hu⟩ : ∃ u, (ajCells x)[i]? = some u := ⟨_, List.getElem?_eq_getElem (by simpa [ajCells] using hi)⟩
  rw [hu] at h5 ⊢
  exact (hb.cell (p := ⟨b, f + j * 6 + i, none⟩) h2).trans h5
def ActCellsJ (W : World) (b f : Nat) (k : Nat) (a : ActJ) : Prop :=
  W.cell? ⟨b, f + k * 6, none⟩ = some (.int .i64 a.op) ∧ W.cell? ⟨b, f + k * 6 + 1, none⟩ = some (.int .i64 a.n) ∧ W.cell? ⟨b, f + k * 6 + 2, none⟩ = some (.int .i64 a.m) ∧ W.cell? ⟨b, f + k * 6 + 3, none⟩ = some (.string a.name) ∧ W.cell? ⟨b, f + k * 6 + 4, none⟩ = some a.lv ∧ W.cell? ⟨b, f + k * 6 + 5, none⟩ = some (.string a.text)
theorem actsJ_at {w : World} {o : Option Addr} {n c : Nat} {al : List ActJ} (h : ActsJ w w.heap.size (.slice o n c) al) {k : Nat} {a : ActJ} (hk : al[k]? = some a) :
    ∃ b f, o = some ⟨b, f, none⟩ ∧ k < c ∧ (∀ W, Below w.heap.size w W → ActCellsJ W b f k a) ∧ ReadsLL w w.heap.size a.lv a.xss := by
  obtain ⟨o', c', hv, hx⟩ := id h
  cases hv
  have hkl := (List.getElem?_eq_some_iff.1 hk).1
  obtain ⟨b, f, h1, h2, h3, h4, h6⟩ := hx k a hk
  refine ⟨b, f, h1, by omega, fun W hb => ?_, h6⟩
  obtain ⟨o2, c2, hv2, hx2⟩ := h.below hb (Nat.le_refl _)
  cases hv2
  obtain ⟨b', f', q1, q2, q3, q4, _⟩ := hx2 k a hk
  rw [h1] at q1
  cases q1
  exact ⟨q4 0 (by omega), q4 1 (by omega), q4 2 (by omega), q4 3 (by omega), q4 4 (by omega), q4 5 (by omega)⟩

/-! ### as they came in -/
theorem actsJ_cells : Tryz.prog.cellsOf 34 = 6 := by kernel_rfl
theorem cellsJ_at {W : World} {x : Addr} {n : Nat} {cs : List Value} (h : W.cells? 0 x n = some cs) : cs.length = n ∧ ∀ i, i < n → W.cell? (x.add i) = cs[i]? := by
  unfold World.cells? at h
  split at h
  · exact ⟨by simpa using mapM_some_length h, fun i hi => mapM_some_get h i i (by simp [hi])⟩
  · cases h

set_option maxRecDepth 100000 in
theorem lists_inner {H : Type} {enc : TypeId × Value → H} {W : World} {n0 : Nat} {cs : List Value} {y : DataW H × List MemPlace}
    (hf : DataW.trod enc Tryz.prog W 0 (fun _ => true) true n0 32 cs = some y) (hlt : ∀ x ∈ y.2, x.block < W.heap.size) :
    ∃ (c : Value) (xss : List (List ByteArray)), cs = [c] ∧ xss.length ≤ maxLen ∧ (∀ l ∈ xss, l.length ≤ maxLen ∧ ∀ x ∈ l, x.size ≤ maxLen) ∧ ReadsLL W W.heap.size c xss := by
  rcases DataW.trod_slice Tryz.underlying32 hf with ⟨hcs, hx⟩ | ⟨a, len, cap, elems, rest, n, _, hcs, hx, _, hl, hm, hlen, hel, hsp, _⟩
  · subst hcs
    exact ⟨_, [], rfl, by simp, by simp, none, 0, rfl, by simp⟩
  · subst hcs
    subst hx
    have hrow : ∀ j, j < (elems.length + rest.length) * Tryz.prog.cellsOf 37 → a.block < W.heap.size := by
      intro j hj
      exact hlt (.cell a.block (a.off + j)) (List.mem_append_left _ (MemPlace.mem_row.2 ⟨j, hj, rfl⟩))
    have each : ∀ i, i < len → ∃ xs, RowIs W W.heap.size a i xs := by
      intro i hi
      have hy := hel i hi
      have hie : i < elems.length := by omega
      rw [List.getElem?_eq_getElem hie, cells_list, Nat.mul_one, Option.bind_eq_some_iff] at hy
      obtain ⟨cs, hc1, hc2⟩ := hy
      obtain ⟨u, rfl, hu⟩ := cell_of_one hc1
      have hpl : ∀ p ∈ elems[i].2, p.block < W.heap.size := fun p hp => hlt p (List.mem_append_right _ (List.mem_flatMap.2 ⟨elems[i], by simp, hp⟩))
      rcases open_strings Tryz.underlying37 Tryz.underlying9 cells_string hc2 with ⟨hcs, _⟩ | ⟨a', l', c', ss, hcs, _, hl', hm', hz, hxx, hcell, hws⟩
      · cases hcs
        exact ⟨[], _, hu, ⟨none, 0, rfl, by simp⟩, by simp, by simp⟩
      · cases hcs
        simp only [if_true] at hz
        have hlen' : (ss.take l').length = l' := by rw [List.length_take]; omega
        refine ⟨ss.take l', _, hu, ⟨some a', c', by rw [hlen'], fun k x hk => ?_⟩, by omega, fun x hx => hws x (List.mem_of_mem_take hx)⟩
        have hk1 : k < l' := by have := (List.getElem?_eq_some_iff.1 hk).1; omega
        have hk2 : k < ss.length := by omega
        rw [List.getElem?_take_of_lt hk1, List.getElem?_eq_getElem hk2] at hk
        have hc := hcell k hk2
        obtain ⟨b, off, spot⟩ := a'
        have hspot : spot = none := by simpa [Addr.add] using World.cell?_spot (hcell 0 (by omega))
        subst hspot
        refine ⟨b, off, rfl, hpl (.cell b (off + k)) ?_, by omega, ?_⟩
        · rw [hxx]; exact MemPlace.mem_row.2 ⟨k, hk2, rfl⟩
        · rw [add_plain] at hc
          rw [hc, ← Option.some.inj hk]
          simp [List.getD, List.getElem?_eq_getElem hk2]
    obtain ⟨f, hf⟩ : ∃ f : Nat → List ByteArray, ∀ i, i < len → RowIs W W.heap.size a i (f i) := by
      classical
      exact ⟨fun i => if h : i < len then Classical.choose (each i h) else [], fun i hi => by simp only [hi, dif_pos]; exact Classical.choose_spec (each i hi)⟩
    refine ⟨_, (List.range len).map f, rfl, by simp; omega, ?_, some a, cap, by simp, ?_⟩
    · intro l hl2
      obtain ⟨i, hi, rfl⟩ := List.mem_map.1 hl2
      obtain ⟨u, _, _, h3, h4⟩ := hf i (List.mem_range.1 hi)
      exact ⟨h3, h4⟩
    · intro i xs hi
      rw [List.getElem?_map] at hi
      have hil : i < len := by
        cases hr : (List.range len)[i]? with
        | none => rw [hr] at hi; cases hi
        | some j => have := (List.getElem?_eq_some_iff.1 hr).1; simpa using this
      rw [List.getElem?_range hil] at hi
      cases hi
      obtain ⟨u, h1, h2, _, _⟩ := hf i hil
      obtain ⟨b, off, spot⟩ := a
      obtain ⟨u0, h0, _⟩ := hf 0 (by omega)
      have hspot : spot = none := by simpa [Addr.add] using World.cell?_spot h0
      subst hspot
      rw [add_plain] at h1
      refine ⟨b, off, u, rfl, hrow 0 (by rw [cells_list, hlen]; omega), by simp; omega, h1, h2⟩

/-- What one act reads as. -/
def ActJAt (W : World) (x : Addr) (a : ActJ) : Prop := AJW a ∧ ReadsLL W W.heap.size a.lv a.xss ∧ ∀ i, i < 6 → W.cell? (x.add i) = (ajCells a)[i]?

set_option maxRecDepth 100000 in
theorem actJ_open {H : Type} {enc : TypeId × Value → H} {W : World} {n : Nat} {x : Addr} {cs : List Value} {y : DataW H × List MemPlace} (hc : W.cells? 0 x 6 = some cs) (h : DataW.trod enc Tryz.prog W 0 (fun _ => true) true n 34 cs = some y) (hlt : ∀ x ∈ y.2, x.block < W.heap.size) : ∃ a, ActJAt W x a := by
  obtain ⟨hl, hcell⟩ := cellsJ_at hc
  obtain ⟨xs, m, _, hy, _, hlen, hf⟩ := DataW.trod_struct Tryz.underlying34 h
  obtain ⟨y0, y1, y2, y3, y4, y5, rfl⟩ : ∃ y0 y1 y2 y3 y4 y5, xs = [y0, y1, y2, y3, y4, y5] := by
    match xs, hlen with
    | [y0, y1, y2, y3, y4, y5], _ => exact ⟨y0, y1, y2, y3, y4, y5, rfl⟩
  obtain ⟨c0, c1, c2, c3, c4, c5, rfl⟩ : ∃ c0 c1 c2 c3 c4 c5, cs = [c0, c1, c2, c3, c4, c5] := by
    match cs, hl with
    | [c0, c1, c2, c3, c4, c5], _ => exact ⟨c0, c1, c2, c3, c4, c5, rfl⟩
  have h0 := hf 0 _ rfl
  have h1 := hf 1 _ rfl
  have h2 := hf 2 _ rfl
  have h3 := hf 3 _ rfl
  have h4 := hf 4 _ rfl
  have h5 := hf 5 _ rfl
  simp only [List.getElem?_cons_zero, List.getElem?_cons_succ] at h0 h1 h2 h3 h4 h5
  obtain ⟨i0, q0, _, w0⟩ := DataW.trod_int Tryz.underlying3 h0
  obtain ⟨i1, q1, _, w1⟩ := DataW.trod_int Tryz.underlying3 h1
  obtain ⟨i2, q2, _, w2⟩ := DataW.trod_int Tryz.underlying3 h2
  obtain ⟨s3, q3, _, w3⟩ := DataW.trod_string Tryz.underlying9 h3
  obtain ⟨lv, xss, q4, w4, w6, w7⟩ := lists_inner h4 (fun p hp => hlt p (by rw [hy]; exact List.mem_flatMap.2 ⟨y4, by simp, hp⟩))
  obtain ⟨s5, q5, _, w5⟩ := DataW.trod_string Tryz.underlying9 h5
  cases q0; cases q1; cases q2; cases q3; cases q4; cases q5
  exact ⟨⟨i0, i1, i2, s3, c4, xss, s5⟩, ⟨bounds_i64 w0, bounds_i64 w1, bounds_i64 w2, w3, w5, w4, w6⟩, w7, hcell⟩

set_option maxRecDepth 100000 in
theorem open_acts {H : Type} {enc : TypeId × Value → H} {W : World} {base : Nat} {v : Value} {d : DataW H} {ps : List MemPlace}
    (hv : Value.okWide Tryz.prog W .any base 22 v) (h : DataW.Trod enc Tryz.prog W 0 (fun _ => true) true 22 v d ps) (hlt : ∀ x ∈ ps, x.block < W.heap.size) :
    (∃ al : List ActJ, al.length ≤ maxLen ∧ (∀ a ∈ al, AJW a) ∧ ActsJ W W.heap.size v al) ∧
    ∀ W', Below W.heap.size W W' → DataW.Trod enc Tryz.prog W' 0 (fun b => decide (b < W.heap.size)) true 22 v d ps := by
  refine ⟨?_, fun W' hb => Below.trod laid_out (by kernel_rfl) (of_decide_eq_true (by kernel_rfl)) h hb hlt⟩
  obtain ⟨a0, len, cap, rfl⟩ := okWide_slice Tryz.underlying22 hv
  obtain ⟨fuel, hf⟩ := h
  rcases DataW.trod_slice Tryz.underlying22 hf with ⟨hcs, hx⟩ | ⟨a, len', cap', elems, rest, n, _, hcs, hx, _, hl, hm, hlen, hel, hsp, _⟩
  · simp [Value.cells] at hcs
    obtain ⟨rfl, rfl, rfl⟩ := hcs
    exact ⟨[], by simp, by simp, none, 0, rfl, by simp⟩
  · simp [Value.cells] at hcs
    obtain ⟨rfl, rfl, rfl⟩ := hcs
    simp only [Prod.mk.injEq] at hx
    obtain ⟨rfl, rfl⟩ := hx
    have hrow : ∀ j, j < (elems.length + rest.length) * Tryz.prog.cellsOf 34 → a.block < W.heap.size := by
      intro j hj
      exact hlt (.cell a.block (a.off + j)) (List.mem_append_left _ (MemPlace.mem_row.2 ⟨j, hj, rfl⟩))
    have each : ∀ i, i < len → ∃ x, ActJAt W (a.add (i * 6)) x := by
      intro i hi
      have hy := hel i hi
      have hie : i < elems.length := by omega
      rw [List.getElem?_eq_getElem hie, actsJ_cells, Option.bind_eq_some_iff] at hy
      obtain ⟨cs, hc1, hc2⟩ := hy
      exact actJ_open hc1 hc2 (fun p hp => hlt p (List.mem_append_right _ (List.mem_flatMap.2 ⟨elems[i], by simp, hp⟩)))
    obtain ⟨f, hf⟩ : ∃ f : Nat → ActJ, ∀ i, i < len → ActJAt W (a.add (i * 6)) (f i) := by
      classical
      exact ⟨fun i => if h : i < len then Classical.choose (each i h) else ⟨0, 0, 0, ⟨#[]⟩, .bool false, [], ⟨#[]⟩⟩, fun i hi => by simp only [hi, dif_pos]; exact Classical.choose_spec (each i hi)⟩
    refine ⟨(List.range len).map f, by simp; omega, ?_, some a, cap, by simp, ?_⟩
    · intro l hl2
      obtain ⟨i, hi, rfl⟩ := List.mem_map.1 hl2
      exact (hf i (List.mem_range.1 hi)).1
    · intro i x hi
      rw [List.getElem?_map] at hi
      have hil : i < len := by
        cases hr : (List.range len)[i]? with
        | none => rw [hr] at hi; cases hi
        | some j => have := (List.getElem?_eq_some_iff.1 hr).1; simpa using this
      rw [List.getElem?_range hil] at hi
      cases hi
      have h1 := (hf i hil).2.2
      have h2 := (hf i hil).2.1
      obtain ⟨b, off, spot⟩ := a
      have h0 := (hf 0 (by omega)).2.2 0 (by omega)
      have hspot : spot = none := by
        rw [show (ajCells (f 0))[0]? = some (.int .i64 (f 0).op) from rfl] at h0
        simpa [Addr.add] using World.cell?_spot h0
      subst hspot
      refine ⟨b, off, rfl, hrow 0 (by rw [actsJ_cells, hlen]; omega), by simp; omega, fun j hj => ?_, h2⟩
      have := h1 j hj
      rw [add_plain, add_plain] at this
      rw [← this]

/-! ### first -/
def firstOf (xss : List (List ByteArray)) : List ByteArray := match xss with | [] => [] | x :: _ => x
set_option maxRecDepth 100000 in
set_option maxHeartbeats 2000000 in
theorem first_is {w : World} {v : Value} {xss : List (List ByteArray)} (hr : ReadsLL w w.heap.size v xss) (hn : xss.length ≤ maxLen) :
    ∃ o c, ReadsO w w.heap.size (.slice o (firstOf xss).length c) (firstOf xss) ∧ ∀ W, Below w.heap.size w W → Calls Tryz.prog 13 #[v] W fun e w' => e = .returned (.slice o (firstOf xss).length c) ∧ W = w' := by
  unfold maxLen at hn
  obtain ⟨vo, vc, rfl, hx⟩ := hr
  cases xss with
  | nil =>
    refine ⟨none, 0, ⟨none, 0, rfl, by simp [firstOf]⟩, fun W _ => ?_⟩
    show Calls _ _ _ _ fun e w' => e = .returned (.slice none 0 0) ∧ W = w'
    clear hx hn
    go_enter Tryz.func13, Tryz.ntmps13
    go_wp2
    go_ret
    exact ⟨rfl, rfl⟩
  | cons x r =>
    obtain ⟨b, f, u, rfl, hb, hc, hcell, hu⟩ := hx 0 x rfl
    obtain ⟨uo, uc, rfl, hux⟩ := id hu
    refine ⟨uo, uc, hu, fun W hB => ?_⟩
    show Calls _ _ _ _ fun e w' => e = .returned (.slice uo x.length uc) ∧ W = w'
    have h1 := (hB.cell (p := ⟨b, f + 0, none⟩) hb).trans hcell
    rw [Nat.add_zero] at h1
    have hlen : (x :: r).length = r.length + 1 := rfl
    rw [hlen] at hc hn ⊢
    have hc0 : 0 < vc := by omega
    have e0 : ((r.length : Int) + 1 == 0) = false := by rw [beq_eq_false_iff_ne]; omega
    have e1 : (((r.length + 1 : Nat) : Int) == 0) = false := by rw [beq_eq_false_iff_ne]; omega
    clear hx hu hux hcell hB
    go_enter Tryz.func13, Tryz.ntmps13
    go_wp2
    go_ret
    exact ⟨rfl, rfl⟩

/-! ### small -/
def fitJ (a : ActJ) : Bool := tinyB a.xss && decide (a.name.size ≤ 150) && decide (a.text.size ≤ 300)
def smallJ (al : List ActJ) : Bool := decide (al.length ≤ 40) && al.all fitJ
/-- An act that can be gone through. -/
structure AJOk (a : ActJ) : Prop extends AJW a where
  name1 : a.name.size ≤ 150
  text1 : a.text.size ≤ 300
  tiny : tinyB a.xss = true
theorem smallJ_ok {al : List ActJ} (h : smallJ al = true) (hw : ∀ a ∈ al, AJW a) : al.length ≤ 40 ∧ ∀ a ∈ al, AJOk a := by
  simp only [smallJ, Bool.and_eq_true, decide_eq_true_eq, List.all_eq_true, fitJ] at h
  exact ⟨h.1, fun a ha => ⟨hw a ha, (h.2 a ha).1.2, (h.2 a ha).2, (h.2 a ha).1.1⟩⟩
theorem smallJ_no {al : List ActJ} {a : ActJ} (h : a ∈ al) (ht : fitJ a = false) : smallJ al = false := by
  unfold smallJ
  rw [show al.all fitJ = false from by rw [List.all_eq_false]; exact ⟨a, h, by simp [ht]⟩, Bool.and_false]

set_option maxRecDepth 100000 in
set_option maxHeartbeats 4000000 in
theorem smallJ_any (v : Value) (al : List ActJ) (w : World) (hr : ActsJ w w.heap.size v al) (hn : al.length ≤ maxLen) (hw : ∀ a ∈ al, AJW a) : Calls Tryz.prog 9 #[v] w fun e w' => e = .returned (.bool (smallJ al)) ∧ w = w' := by
  unfold maxLen at hn
  obtain ⟨o, c, rfl, hx⟩ := hr
  have HX := Lib.hid hx
  have HZ := Lib.hid hw
  clear hx hw
  by_cases h40 : 40 < al.length
  · have e1 : decide (40 < (al.length : Int)) = true := by simp; omega
    have HN : Hid (smallJ al = false) := by show _ = _; simp [smallJ]; omega
    clear HZ
    go_enter Tryz.func9, Tryz.ntmps9
    go_wp2
    go_ret
    exact ⟨by rw [HN.out]; rfl, rfl⟩
  have e1 : decide (40 < (al.length : Int)) = false := by simp; omega
  go_enter Tryz.func9, Tryz.ntmps9
  go_wp2
  go_loop [3] (fun i => ∃ k : Nat, k ≤ al.length ∧ i = .int .i64 k ∧ Hid (∀ a ∈ al.take k, fitJ a = true)) (fun i => al.length - (intOf i).toNat)
  case atStart => exact ⟨0, Nat.zero_le _, rfl, by intro a ha; simp at ha⟩
  case round =>
    obtain ⟨k, hk, rfl, HM⟩ := hrel
    by_cases hlt : k < al.length
    · obtain ⟨b, f, rfl, _, hkc, hcell, hrd⟩ := HX.out k al[k] (List.getElem?_eq_getElem hlt)
      have hkc' : k < c := by omega
      have hxz := HZ.out al[k] (List.getElem_mem hlt)
      have hmem : al[k] ∈ al := List.getElem_mem hlt
      have e3 := hcell 3 (by omega)
      have e4 := hcell 4 (by omega)
      have e5 := hcell 5 (by omega)
      have HT := Lib.hid (tiny_at hrd hxz.len hxz.rows w (Below.refl _ _))
      have HS : Hid (fitJ al[k] = true → ∀ a ∈ al.take (k + 1), fitJ a = true) := by
        intro h a ha
        rw [List.take_succ_eq_append_getElem hlt] at ha
        rcases List.mem_append.1 ha with ha | ha
        · exact HM.out a ha
        · simp at ha; rw [ha]; exact h
      have HN : Hid (fitJ al[k] = false → smallJ al = false) := fun h => smallJ_no hmem h
      have p1 := hxz.name
      have p2 := hxz.text
      unfold maxLen at p1 p2
      clear hcell hxz hmem HM hrd
      generalize al[k] = a at *
      obtain ⟨op, an, am, ap, lv, xss, at'⟩ := a
      simp only [ajCells, List.getElem?_cons_succ, List.getElem?_cons_zero] at e3 e4 e5 p1 p2 HT
      have hi5 : (k : Int) < (al.length : Int) := by omega
      have hi6 : (0 : Int) ≤ (k : Int) := by omega
      have HF : Hid (∀ t, tinyB xss = t → fitJ ⟨op, an, am, ap, lv, xss, at'⟩ = (t && decide (ap.size ≤ 150) && decide (at'.size ≤ 300))) := fun t ht => by rw [← ht]; rfl
      cases hty : tinyB xss with
      | false =>
        have HN2 : Hid (smallJ al = false) := HN.out (by rw [HF.out _ hty]; rfl)
        rw [hty] at HT
        clear hty
        go_wp2_with (go_at_call 29; refine HT.out.mono ?_; rintro e w3 ⟨rfl, rfl⟩)
        go_ret
        exact ⟨by rw [HN2.out]; rfl, rfl⟩
      | true =>
        have HF2 := Lib.hid (HF.out _ hty)
        rw [hty] at HT
        clear hty
        by_cases hp : 150 < ap.size
        · have d1 : decide (150 < (ap.size : Int)) = true := by simp; omega
          have HN2 : Hid (smallJ al = false) := HN.out (by rw [HF2.out]; simp; omega)
          go_wp2_with (go_at_call 29; refine HT.out.mono ?_; rintro e w3 ⟨rfl, rfl⟩)
          go_ret
          exact ⟨by rw [HN2.out]; rfl, rfl⟩
        · have d1 : decide (150 < (ap.size : Int)) = false := by simp; omega
          by_cases ht : 300 < at'.size
          · have d2 : decide (300 < (at'.size : Int)) = true := by simp; omega
            have HN2 : Hid (smallJ al = false) := HN.out (by rw [HF2.out]; simp; omega)
            go_wp2_with (go_at_call 29; refine HT.out.mono ?_; rintro e w3 ⟨rfl, rfl⟩)
            go_ret
            exact ⟨by rw [HN2.out]; rfl, rfl⟩
          · have d2 : decide (300 < (at'.size : Int)) = false := by simp; omega
            have HS2 : Hid (∀ a ∈ al.take (k + 1), fitJ a = true) := HS.out (by rw [HF2.out]; simp; omega)
            go_wp2_with (go_at_call 29; refine HT.out.mono ?_; rintro e w3 ⟨rfl, rfl⟩)
            go_round
            case rel => exact ⟨k + 1, hlt, by go_num, HS2⟩
            case measure => simp [intOf]; omega
    · have HN : Hid (smallJ al = true) := by
        have := HM.out
        rw [List.take_of_length_le (by omega)] at this
        show _ = _
        simp only [smallJ, Bool.and_eq_true, decide_eq_true_eq, List.all_eq_true]
        exact ⟨by omega, this⟩
      go_wp2
      go_ret
      exact ⟨by rw [HN.out]; rfl, rfl⟩
theorem smallJ_at {w : World} {v : Value} {al : List ActJ} (hr : ActsJ w w.heap.size v al) (hn : al.length ≤ maxLen) (hw : ∀ a ∈ al, AJW a) (W : World) (hb : Below w.heap.size w W) :
    Calls Tryz.prog 9 #[v] W fun e w' => e = .returned (.bool (smallJ al)) ∧ W = w' :=
  smallJ_any v al W (hr.below hb hb.size) hn hw

end Go.Proofs.YtgnappifekacpaaGreatDoor
