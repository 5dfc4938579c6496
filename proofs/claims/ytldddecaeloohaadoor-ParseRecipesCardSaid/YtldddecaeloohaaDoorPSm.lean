/-
  What the statements' own sames, same and as answer. No condition.
-/
import Derived.Deep.RegionHeld3
import Derived.Test.YtldddecaeloohaaDoorPRd
namespace Go.Proofs.YtldddecaeloohaaDoor
open Go.RowKit Go.Shelf
attribute [local go_sem] Oper.semAt_some

set_option maxRecDepth 100000 in
set_option maxHeartbeats 4000000 in
/-- Two rows that read as the same texts are the same. -/
theorem samesT (v1 v2 : Value) (xs : List BS) (w : World) (h1 : ReadsO w w.heap.size v1 (xs.map txt)) (h2 : ReadsO w w.heap.size v2 (xs.map txt)) (hl : xs.length ≤ 1000000) :
    Calls Tryd.prog 21 #[v1, v2] w fun e w' => e = .returned (.bool true) ∧ Below w.heap.size w w' := by
  obtain ⟨o1, c1, rfl, hx1⟩ := h1
  obtain ⟨o2, c2, rfl, hx2⟩ := h2
  rw [List.length_map] at hx1 hx2 ⊢
  obtain ⟨n, hn⟩ : ∃ n, n = xs.length := ⟨_, rfl⟩
  rw [← hn] at hx1 hx2 hl ⊢
  have HX : Hid (∀ k, k < n → ∃ x b1 f1 b2 f2, o1 = some ⟨b1, f1, none⟩ ∧ o2 = some ⟨b2, f2, none⟩ ∧ n ≤ c1 ∧ n ≤ c2 ∧ ∀ W, Below w.heap.size w W → W.cell? ⟨b1, f1 + k, none⟩ = some (.string x) ∧ W.cell? ⟨b2, f2 + k, none⟩ = some (.string x)) := fun k hk => by
    have hg : (xs.map txt)[k]? = some (txt (xs[k]'(by omega))) := by rw [List.getElem?_map, List.getElem?_eq_getElem (by omega)]; rfl
    obtain ⟨b1, f1, p1, p2, p3, p4⟩ := hx1 k _ hg
    obtain ⟨b2, f2, q1, q2, q3, q4⟩ := hx2 k _ hg
    exact ⟨_, b1, f1, b2, f2, p1, q1, p3, q3, fun W hb => ⟨(hb.cell (p := ⟨b1, f1 + k, none⟩) p2).trans p4, (hb.cell (p := ⟨b2, f2 + k, none⟩) q2).trans q4⟩⟩
  clear hx1 hx2 hn
  go_enter Tryd.func21, Tryd.ntmps21
  go_wp2
  go_loopw [5] (fun i wr => ∃ k : Nat, k ≤ n ∧ i = .int .i64 k ∧ Below w.heap.size w wr) (fun i _ => n - (intOf i).toNat)
  case atStart => exact ⟨0, Nat.zero_le _, rfl, Below.refl _ _⟩
  case round =>
    obtain ⟨k, hk, rfl, hb⟩ := hrel
    by_cases hkn : k < n
    · obtain ⟨x, b1, f1, b2, f2, rfl, rfl, hc1, hc2, hc⟩ := HX.out k hkn
      obtain ⟨p, q⟩ := hc wr hb
      have hb9 := Lib.hid (fun m => hb.trans (drewN_below _ wr m))
      clear hc hb
      go_wp2
      go_quiet (fail)
      go_wp2
      go_roundw
      case rel => exact ⟨k + 1, hkn, by go_num, hb9.out _⟩
      case measure => simp [intOf]; omega
    · have HB := Lib.hid hb
      clear hb
      go_wp2
      go_ret
      exact ⟨rfl, HB.out⟩

theorem drewE {B : Nat} {a w : World} (h : Below B a w) : Below B a w.drew := ⟨h.os, h.tape, h.output, h.size, h.block⟩
set_option maxRecDepth 100000 in
set_option maxHeartbeats 8000000 in
/-- Two rows of nodes that read as the same ones are the same. -/
theorem sameT (v1 v2 : Value) (l : List Nd) (w : World) (h1 : ReadsN w w.heap.size v1 l) (h2 : ReadsN w w.heap.size v2 l) (hl : l.length ≤ 1000000) (hr : ∀ x ∈ l, x.recipe.length ≤ 1000000) :
    Calls Tryd.prog 15 #[v1, v2] w fun e w' => e = .returned (.bool true) ∧ Below w.heap.size w w' := by
  obtain ⟨o1, c1, rfl, hx1⟩ := h1
  obtain ⟨o2, c2, rfl, hx2⟩ := h2
  obtain ⟨n, hn⟩ : ∃ n, n = l.length := ⟨_, rfl⟩
  rw [← hn] at hx1 hx2 hl ⊢
  have HX : Hid (∀ k, k < n → ∃ x b1 f1 b2 f2 r1 r2, o1 = some ⟨b1, f1, none⟩ ∧ o2 = some ⟨b2, f2, none⟩ ∧ n ≤ c1 ∧ n ≤ c2 ∧ x.recipe.length ≤ 1000000 ∧ (b1 < w.heap.size ∧ b2 < w.heap.size) ∧ (∀ W, Below w.heap.size w W → (∀ i, i < 10 → W.cell? ⟨b1, f1 + (k * 10 + i), none⟩ = (encN (x, r1))[i]?) ∧ (∀ i, i < 10 → W.cell? ⟨b2, f2 + (k * 10 + i), none⟩ = (encN (x, r2))[i]?) ∧ ReadsO W W.heap.size r1 (x.recipe.map txt) ∧ ReadsO W W.heap.size r2 (x.recipe.map txt))) := fun k hk => by
    have hg : l[k]? = some (l[k]'(by omega)) := List.getElem?_eq_getElem (by omega)
    obtain ⟨b1, f1, r1, p1, p2, p3, p4, p5⟩ := hx1 k _ hg
    obtain ⟨b2, f2, r2, q1, q2, q3, q4, q5⟩ := hx2 k _ hg
    exact ⟨_, b1, f1, b2, f2, r1, r2, p1, q1, p3, q3, hr _ (List.getElem_mem _), ⟨p2, q2⟩, fun W hb => ⟨fun i hi => (hb.cell (p := ⟨b1, f1 + (k * 10 + i), none⟩) p2).trans (p4 i hi), fun i hi => (hb.cell (p := ⟨b2, f2 + (k * 10 + i), none⟩) q2).trans (q4 i hi), p5.below hb hb.size, q5.below hb hb.size⟩⟩
  clear hx1 hx2 hn hr
  go_enter Tryd.func15, Tryd.ntmps15
  go_wp2
  go_loopw [5] (fun i wr => ∃ k : Nat, k ≤ n ∧ i = .int .i64 k ∧ Below w.heap.size w wr) (fun i _ => n - (intOf i).toNat)
  case atStart => exact ⟨0, Nat.zero_le _, rfl, Below.refl _ _⟩
  case round =>
    obtain ⟨k, hk, rfl, hb⟩ := hrel
    by_cases hkn : k < n
    · obtain ⟨x, b1, f1, b2, f2, r1, r2, rfl, rfl, hc1, hc2, hxr, ⟨hbl1, hbl2⟩, hc⟩ := HX.out k hkn
      obtain ⟨pc, qc, hr1, hr2⟩ := hc wr hb
      have hs1 := hr1
      have hs2 := hr2
      obtain ⟨ro1, rc1, rfl, _⟩ := hs1
      obtain ⟨ro2, rc2, rfl, _⟩ := hs2
      have HS : Hid (∀ W, Below wr.heap.size wr W → Calls Tryd.prog 21 #[.slice ro1 (x.recipe.map txt).length rc1, .slice ro2 (x.recipe.map txt).length rc2] W fun e w' => e = .returned (.bool true) ∧ Below W.heap.size W w') := fun W hW =>
        samesT _ _ x.recipe W (hr1.below hW hW.size) (hr2.below hW hW.size) hxr
      have p0 : wr.cell? ⟨b1, f1 + k * 10, none⟩ = some (.int .i64 x.kind) := pc 0 (by omega)
      have p1 : wr.cell? ⟨b1, f1 + k * 10 + 1, none⟩ = some (.int .i64 x.no) := pc 1 (by omega)
      have p2 : wr.cell? ⟨b1, f1 + k * 10 + 2, none⟩ = some (.string (txt x.op)) := pc 2 (by omega)
      have p3 : wr.cell? ⟨b1, f1 + k * 10 + 3, none⟩ = some (.string (txt x.name)) := pc 3 (by omega)
      have p4 : wr.cell? ⟨b1, f1 + k * 10 + 4, none⟩ = some (.string (txt x.text)) := pc 4 (by omega)
      have p5 : wr.cell? ⟨b1, f1 + k * 10 + 5, none⟩ = some (.string (txt x.targets)) := pc 5 (by omega)
      have p6 : wr.cell? ⟨b1, f1 + k * 10 + 6, none⟩ = some (.string (txt x.pattern)) := pc 6 (by omega)
      have p7 : wr.cell? ⟨b1, f1 + k * 10 + 7, none⟩ = some (.string (txt x.inputs)) := pc 7 (by omega)
      have p8 : wr.cell? ⟨b1, f1 + k * 10 + 8, none⟩ = some (.string (txt x.order)) := pc 8 (by omega)
      have p9 : wr.cell? ⟨b1, f1 + k * 10 + 9, none⟩ = some (.slice ro1 (x.recipe.map txt).length rc1) := pc 9 (by omega)
      have q0 : wr.cell? ⟨b2, f2 + k * 10, none⟩ = some (.int .i64 x.kind) := qc 0 (by omega)
      have q1 : wr.cell? ⟨b2, f2 + k * 10 + 1, none⟩ = some (.int .i64 x.no) := qc 1 (by omega)
      have q2 : wr.cell? ⟨b2, f2 + k * 10 + 2, none⟩ = some (.string (txt x.op)) := qc 2 (by omega)
      have q3 : wr.cell? ⟨b2, f2 + k * 10 + 3, none⟩ = some (.string (txt x.name)) := qc 3 (by omega)
      have q4 : wr.cell? ⟨b2, f2 + k * 10 + 4, none⟩ = some (.string (txt x.text)) := qc 4 (by omega)
      have q5 : wr.cell? ⟨b2, f2 + k * 10 + 5, none⟩ = some (.string (txt x.targets)) := qc 5 (by omega)
      have q6 : wr.cell? ⟨b2, f2 + k * 10 + 6, none⟩ = some (.string (txt x.pattern)) := qc 6 (by omega)
      have q7 : wr.cell? ⟨b2, f2 + k * 10 + 7, none⟩ = some (.string (txt x.inputs)) := qc 7 (by omega)
      have q8 : wr.cell? ⟨b2, f2 + k * 10 + 8, none⟩ = some (.string (txt x.order)) := qc 8 (by omega)
      have q9 : wr.cell? ⟨b2, f2 + k * 10 + 9, none⟩ = some (.slice ro2 (x.recipe.map txt).length rc2) := qc 9 (by omega)
      have hbs := hb.size
      have HB : Hid (Below w.heap.size w wr) := hb
      clear hc hb pc qc hr1 hr2
      generalize (x.recipe.map txt).length = rn at *
      have hl1 : b1 < wr.heap.size := by omega
      have hl2 : b2 < wr.heap.size := by omega
      have HW2 : Hid (∀ c1 t1 c2 t2, Below wr.heap.size wr ((wr.alloc (.cells c1 t1)).alloc (.cells c2 t2))) := fun c1 t1 c2 t2 => ((Below.refl _ wr).alloc (Nat.le_refl _) _).alloc (by simp) _
      go_wp2_with (go_at_call 21; refine (HS.out _ (by first | exact HW2.out _ _ _ _ | exact drewE (HW2.out _ _ _ _))).mono ?_; rintro e w' ⟨rfl, hb'⟩)
      go_roundw
      case rel => exact ⟨k + 1, hkn, by go_num, HB.out.trans (((HW2.out _ _ _ _).trans (hb'.mono (by simp; omega))).mono HB.out.size)⟩
      case measure => simp [intOf]; omega
    · have HB := Lib.hid hb
      clear hb
      go_wp2
      go_ret
      exact ⟨rfl, HB.out⟩

/-! ### as -/
abbrev encL (x : LineI) : List Value := [.int .i64 x.1, .bool x.2.1, .string (txt x.2.2)]
theorem rowLinesW : RowW 30 65 3 :=
  rowW_of (.agg #[.int .i64 0, .bool false, .string ⟨#[]⟩]) 32 Tryd.underlying30 (by kernel_rfl) (by decide) rfl (by decide)
/-- A row of lines of the call's own. -/
def RowK (E : TypeId) (w0 w : World) (v : Value) (l : List LineI) : Prop := RowR E 3 encL w (fun n => w0.heap.size ≤ n ∧ n < w.heap.size) v l ∧ Below w0.heap.size w0 w
theorem RowK.start {E : TypeId} {w0 w : World} (h : Below w0.heap.size w0 w) : RowK E w0 w (.slice none 0 0) [] := ⟨RowR.nil _ _ _ _ _, h⟩
theorem RowK.slice {E : TypeId} {w0 w : World} {v : Value} {l : List LineI} (h : RowK E w0 w v l) : ∃ o c, v = .slice o l.length c ∧ RowK E w0 w (.slice o l.length c) l := by
  obtain ⟨o, c, hv, _⟩ := h.1.shape (fun _ => rfl)
  exact ⟨o, c, hv, hv ▸ h⟩
theorem RowK.below {E : TypeId} {w0 w w' : World} {v : Value} {l : List LineI} (h : RowK E w0 w v l) (hb : Below w.heap.size w w') : RowK E w0 w' v l :=
  ⟨(h.1.kept (turned_below hb) (fun _ _ h => h)).wider (fun _ hn => ⟨hn.1, Nat.lt_of_lt_of_le hn.2 hb.size⟩), h.2.trans (hb.mono h.2.size)⟩
theorem RowK.reads {E : TypeId} {w0 w : World} {v : Value} {l : List LineI} (h : RowK E w0 w v l) : ReadsL w w.heap.size v l := by
  obtain ⟨o, c, hv, q1, q2, q3, q4⟩ := h.1.shape (fun _ => rfl)
  refine ⟨o, c, hv, fun j x hj => ?_⟩
  obtain ⟨g, hg, hx⟩ := q4 j x hj
  have h0 := hx 0 (by omega)
  have h1 := hx 1 (by omega)
  have h2 := hx 2 (by omega)
  rw [Nat.add_zero] at h0
  exact ⟨g, 0, hg, h.1.lt g (by rw [hv, hg]; rfl), q1, by rw [Nat.zero_add]; exact h0, by rw [Nat.zero_add]; exact h1, by rw [Nat.zero_add]; exact h2⟩
/-- One line more, in a world in which the line lies already. -/
theorem RowK.push {t E : TypeId} {w0 w u : World} {v : Value} {l : List LineI} {nb : Nat} {fz : Nat × Nat} (hT : RowW t E 3) (h : RowK E w0 w v l) (x : LineI) (hu : Below w.heap.size w u) (hn : u.heap[nb]? = some (.cells (encL x).toArray E fz)) (hl : l.length < 1000000) (ty : TypeId) :
    ∃ o c w', (Builtin.append_ #[t, t] ty #[v, .slice (some ⟨nb, 0, none⟩) 1 1]).run Tryd.prog u = .ok (.slice o (l.length + 1) c) w' ∧ RowK E w0 w' (.slice o (l.length + 1) c) (l ++ [x]) := by
  have h9 := h.below hu
  obtain ⟨v', w', hrun, hR, hTu, o, c, rfl⟩ := RowR.pushW hT h9.1 x rfl (by simp [Value.oneCell']) nb 1 fz hn (by omega) ty
  refine ⟨o, c, w', hrun, hR.tight.wider (fun n hn => ⟨?_, hn.2⟩), h9.2.trans (hTu.below (by exact h9.2.size) fun n hn => hn.1)⟩
  rcases hn.1 with hn | hn
  · exact hn.1
  · rw [hn]; exact h9.2.size
theorem step_append_run {P : Program} {ops : Array Oper} {o : Oper} {a : Act} {w : World} {K : Act → World → Prop} {Q : Exit → Act → World → Prop} {E : Prop} (hg : o.guard = none) (s x : Operand) (t : TypeId)
    (hop : o.op = Op.call { callee := Callee.builtin Builtin.append, args := #[s, x], argTypes := #[t, t] }) (v u v' : Value) (w' : World) (hs : a.eval s = v) (hx : a.eval x = u)
    (hrun : (Builtin.append_ #[t, t] o.type #[v, u]).run P w = .ok v' w') (hK : K (a.put o.dst v') w') : if Region.wanted o (yielded ops a.tmps) = true then Oper.wp P o a w K Q else E := by
  have hw : Region.wanted o (yielded ops a.tmps) = true := by simp [Region.wanted, hg]
  rw [if_pos hw]
  unfold Oper.wp
  simp [execOp, hop, resolve, invoke, builtin, hs, hx, hrun, Result.andThen]
  exact hK
def AsPost (ls : List LineI) (w : World) (e : Ending) (w' : World) : Prop :=
  ((60 < ls.length ∨ ∃ x ∈ ls, 400 < x.2.2.length) ∧ e = .returned (.tuple #[.slice none 0 0, .bool false]) ∧ Below w.heap.size w w') ∨
  ((ls.length ≤ 60 ∧ ∀ x ∈ ls, x.2.2.length ≤ 400) ∧ ∃ o c, e = .returned (.tuple #[.slice o ls.length c, .bool true]) ∧ ReadsL w' w'.heap.size (.slice o ls.length c) ls ∧ Below w.heap.size w w')

set_option maxRecDepth 100000 in
set_option maxHeartbeats 8000000 in
theorem as_any (v : Value) (ls : List LineI) (w : World) (hr : ReadsL w w.heap.size v ls) : Calls Tryd.prog 16 #[v] w (AsPost ls w) := by
  obtain ⟨o, c, rfl, hx⟩ := hr
  obtain ⟨n, hn⟩ : ∃ n, n = ls.length := ⟨_, rfl⟩
  rw [← hn] at hx ⊢
  have HX : Hid (∀ (j : Nat) x, ls[j]? = some x → ∃ b f, o = some ⟨b, f, none⟩ ∧ n ≤ c ∧ ∀ W, Below w.heap.size w W → W.cell? ⟨b, f + j * 3, none⟩ = some (.int .i64 x.1) ∧ W.cell? ⟨b, f + j * 3 + 1, none⟩ = some (.bool x.2.1) ∧ W.cell? ⟨b, f + j * 3 + 2, none⟩ = some (.string (txt x.2.2))) := fun j x hj => by
    obtain ⟨b, f, h1, h2, h3, h4, h5, h6⟩ := hx j x hj
    exact ⟨b, f, h1, h3, fun W hb => ⟨(hb.cell (p := ⟨b, f + j * 3, none⟩) h2).trans h4, (hb.cell (p := ⟨b, f + j * 3 + 1, none⟩) h2).trans h5, (hb.cell (p := ⟨b, f + j * 3 + 2, none⟩) h2).trans h6⟩⟩
  have HN := Lib.hid hn
  clear hx hn
  by_cases h60 : 60 < n
  · have d60 : decide ((60 : Int) < (n : Int)) = true := decide_eq_true (by omega)
    go_enter Tryd.func16, Tryd.ntmps16
    go_wp2
    go_ret2
    exact .inl ⟨.inl (by rw [← HN.out]; exact h60), rfl, Below.refl _ _⟩
  · have d60 : decide ((60 : Int) < (n : Int)) = false := decide_eq_false (by omega)
    go_enter Tryd.func16, Tryd.ntmps16
    go_wp2
    go_loopw [4, 5] (fun ov iv wr => ∃ i : Nat, i ≤ n ∧ iv = .int .i64 i ∧ (∀ x ∈ ls.take i, x.2.2.length ≤ 400) ∧ RowK 65 w wr ov (ls.take i)) (fun _ iv _ => n - (intOf iv).toNat)
    case atStart => exact ⟨0, Nat.zero_le _, rfl, by simp, RowK.start (Below.refl _ _)⟩
    case round =>
      obtain ⟨i, hi, rfl, hsm, hR0⟩ := hrel
      obtain ⟨qo, qc, rfl, hR⟩ := hR0.slice
      clear hR0
      have htl : (ls.take i).length = i := by rw [List.length_take, ← HN.out]; omega
      rw [htl] at hR ⊢
      by_cases hin : i < n
      · obtain ⟨x, hli⟩ : ∃ x, ls[i]? = some x := ⟨ls[i]'(by rw [← HN.out]; exact hin), List.getElem?_eq_getElem _⟩
        obtain ⟨b, f, rfl, hncap, hlc⟩ := HX.out i _ hli
        obtain ⟨l0, l1, l2⟩ := hlc wr hR.2
        have htk : ls.take (i + 1) = ls.take i ++ [x] := by rw [List.take_add_one, hli]; rfl
        by_cases h400 : 400 < x.2.2.length
        · have HB := Lib.hid hR.2
          have HM := Lib.hid (List.mem_of_getElem? hli)
          have d4 : decide ((400 : Int) < (x.2.2.length : Int)) = true := decide_eq_true (by omega)
          clear hR hlc hli htk
          go_wp2
          go_ret2
          exact .inl ⟨.inr ⟨x, HM.out, h400⟩, rfl, HB.out⟩
        · have d4 : decide ((400 : Int) < (x.2.2.length : Int)) = false := decide_eq_false (by omega)
          have HS : Hid (∀ y ∈ ls.take (i + 1), y.2.2.length ≤ 400) := fun y hy => by
            rw [htk] at hy
            rcases List.mem_append.1 hy with hy | hy
            · exact hsm y hy
            · rw [List.mem_singleton.1 hy]; omega
          have hu : Below wr.heap.size wr (wr.alloc (.cells #[.int .i64 x.1, .bool x.2.1, .string (txt x.2.2)] 65)).drew := drewE ((Below.refl _ wr).alloc (Nat.le_refl _) _)
          obtain ⟨o5, c5, w5, hrun, hR5⟩ := hR.push (nb := wr.heap.size) (fz := (0, 0)) rowLinesW x hu (World.alloc_heap_new wr _) (by rw [htl]; omega) 30
          rw [htl] at hrun hR5
          rw [← htk] at hR5
          have HR5 := Lib.hid hR5
          have HK : Hid (∀ ob, ((wr.alloc ob).drew.cell? ⟨b, f + i * 3, none⟩ = some (.int .i64 x.1) ∧ (wr.alloc ob).drew.cell? ⟨b, f + i * 3 + 1, none⟩ = some (.bool x.2.1)) ∧ (wr.alloc ob).drew.cell? ⟨b, f + i * 3 + 2, none⟩ = some (.string (txt x.2.2))) := fun ob => by
            obtain ⟨m0, m1, m2⟩ := hlc (wr.alloc ob).drew (drewE (hR.2.alloc hR.2.size ob))
            exact ⟨⟨m0, m1⟩, m2⟩
          clear hR hR5 hlc hli htk hsm hu
          go_wp2
          go_region_law (refine step_append_run rfl (.tmp 22) (.tmp 39) 30 rfl _ _ _ w5 (by simp [Act.eval]) (by simp [Act.eval]) hrun ?_)
          all_goals (
            go_wp2
            go_roundw
            case rel => exact ⟨i + 1, hin, by go_num, HS.out, HR5.out⟩
            case measure => simp [intOf]; omega)
      · have he : i = n := by omega
        have ht : ls.take i = ls := List.take_of_length_le (by rw [← HN.out]; omega)
        rw [ht] at hR hsm
        have HR := Lib.hid hR
        have HS : Hid (∀ x ∈ ls, x.2.2.length ≤ 400) := hsm
        clear hR hsm ht htl
        subst he
        go_wp2
        go_ret2
        refine .inr ⟨⟨by rw [← HN.out]; omega, HS.out⟩, qo, qc, by rw [← HN.out]; rfl, by rw [← HN.out]; exact HR.out.reads, HR.out.2⟩
end Go.Proofs.YtldddecaeloohaaDoor
