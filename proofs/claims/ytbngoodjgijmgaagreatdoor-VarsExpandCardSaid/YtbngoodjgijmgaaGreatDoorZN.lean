/-
  The document's own answer: what is kept from place to place, its begin, its Get; where a text is cut. No condition.
  What the document's own value answers, if its text answers as the chapter says. No condition but sizes.
  What the document's own text answers, if its refer and value answer as the chapter says. No condition but sizes.
  What the document's own least, left and arguments answer. No condition but sizes.
-/
import Derived.Deep.RegionHeld3
import Derived.Test.YtbngoodjgijmgaaGreatDoorVKp
import Derived.Test.YtbngoodjgijmgaaGreatDoorZM
namespace Go.Proofs.YtbngoodjgijmgaaGreatDoor
open Go.RowKit Go.Shelf
attribute [local go_sem] Oper.semAt_some

/-! ### where a text is cut -/
theorem cutIdx_glue (sg : List BS) : ∀ (o : List Bool) (s : BS), (cutIdx sg o s).1 ++ ((cutIdx sg o s).2.1 ++ (cutIdx sg o s).2.2) = s ∧ ((cutIdx sg o s).2.1 = [] ∧ (cutIdx sg o s).2.2 = [] ∨ (cutIdx sg o s).2.1 ∈ sg)
  | _, [] => by unfold cutIdx; simp
  | [], c :: r => by unfold cutIdx; simp
  | true :: o, c :: r => by
    unfold cutIdx
    cases h : signAt sg (c :: r) with
    | some x =>
      obtain ⟨h1, _, h3⟩ := sign_at h
      exact ⟨h3, .inr h1⟩
    | none =>
      obtain ⟨h1, h2⟩ := cutIdx_glue sg o r
      exact ⟨congrArg (List.cons c) h1, h2⟩
  | false :: o, c :: r => by
    unfold cutIdx
    obtain ⟨h1, h2⟩ := cutIdx_glue sg o r
    exact ⟨congrArg (List.cons c) h1, h2⟩
/-- No sign: all is ahead. -/
theorem cut_ahead {q : BS} {s : BS} (h : (cutOf [q] s).2.1 = []) (hq : q ≠ []) : (cutOf [q] s).1 = s ∧ (cutOf [q] s).2.2 = [] := by
  obtain ⟨h1, h2 | h2⟩ := cutIdx_glue [q] (outsL [] s) s
  · have h3 : (cutOf [q] s).2.2 = [] := h2.2
    have h1' : (cutOf [q] s).1 ++ ((cutOf [q] s).2.1 ++ (cutOf [q] s).2.2) = s := h1
    rw [h, h3] at h1'
    exact ⟨by simpa using h1', h3⟩
  · have h2' : (cutOf [q] s).2.1 ∈ [q] := h2
    rw [h] at h2'
    exact absurd (List.mem_singleton.1 h2').symm hq
/-- A sign: it, and what is behind it. -/
theorem cut_sign {q : UInt8} {s : BS} (h : (cutOf [[q]] s).2.1 ≠ []) : (cutOf [[q]] s).2.1 = [q] ∧ (cutOf [[q]] s).1 = s.take (cutOf [[q]] s).1.length ∧ (cutOf [[q]] s).2.2 = s.drop ((cutOf [[q]] s).1.length + 1) ∧ (cutOf [[q]] s).1.length + 1 ≤ s.length := by
  obtain ⟨h1, h2 | h2⟩ := cutIdx_glue [[q]] (outsL [] s) s
  · exact absurd h2.1 h
  · have h2' : (cutOf [[q]] s).2.1 = [q] := List.mem_singleton.1 h2
    have h1' : (cutOf [[q]] s).1 ++ ((cutOf [[q]] s).2.1 ++ (cutOf [[q]] s).2.2) = s := h1
    rw [h2'] at h1'
    clear h1 h2 h
    generalize cutOf [[q]] s = k at h1' h2' ⊢
    refine ⟨h2', ?_, ?_, ?_⟩
    · conv => rhs; rw [← h1']
      rw [List.take_left]
    · conv => rhs; rw [← h1']
      rw [← List.drop_drop, List.drop_left]; rfl
    · have := congrArg List.length h1'
      simp only [List.length_append, List.length_cons, List.length_nil] at this
      omega

/-! ### what is kept -/
/-- So many steps are counted. -/
def RAt (W : World) (xb n : Nat) : Prop := W.heap[xb]? = some (.cells #[.int .i64 (n : Int)] 66 (0, 0))
theorem RAt.kept {W W' : World} {xb n : Nat} {X : Nat → Prop} (h : RAt W xb n) (hT : Turned X W W') (hx : ¬ X xb) : RAt W' xb n := (hT.block xb (Array.getElem?_eq_some_iff.1 h).1 hx).trans h
theorem RAt.lt {W : World} {xb n : Nat} (h : RAt W xb n) : xb < W.heap.size := (Array.getElem?_eq_some_iff.1 h).1
theorem RAt.put {W : World} {xb n : Nat} (h : RAt W xb n) (m : Nat) : RAt (W.setCell ⟨xb, 0, none⟩ (.int .i64 (m : Int))) xb m := by
  unfold RAt at h ⊢
  simp [World.setCell, Array.getElem?_modify, h]
theorem RAt.on {W W' : World} {xb n : Nat} (h : RAt W xb n) (hb : Later W W') : RAt W' xb n := (hb.block xb h.lt).trans h
/-- Only the steps are turned. -/
abbrev Steps (xb : Nat) (w W : World) : Prop := Turned (fun b => b = xb) w W
theorem Later.steps {w W : World} (h : Later w W) (xb : Nat) : Steps xb w W := turned_of_below' h
structure AtR (xb n : Nat) (w : World) (v : Value) (env : EnvT) : Prop where
  steps : RAt w xb n
  few : n ≤ 2000
  env : EnvS w (fun b => b ≠ xb) v env
theorem AtR.turned {xb n n' : Nat} {w W : World} {v : Value} {env : EnvT} (h : AtR xb n w v env) (hT : Steps xb w W) (hs : RAt W xb n') (hn : n' ≤ 2000) : AtR xb n' W v env :=
  ⟨hs, hn, h.env.turned hT (fun _ h1 h2 => h1 h2)⟩
theorem AtR.on {xb n : Nat} {w W : World} {v : Value} {env : EnvT} (h : AtR xb n w v env) (hb : Later w W) : AtR xb n W v env := ⟨h.steps.on hb, h.few, h.env.below hb⟩
def EnvR (env : EnvT) (k : Nat) : Prop := SrtT env ∧ env.length + 10 * k ≤ 1000 ∧ ∀ x ∈ env, x.1.length ≤ 4000 ∧ x.2.1.length ≤ 4000
theorem EnvR.less {env : EnvT} {k : Nat} (h : EnvR env (k + 1)) : EnvR env k := ⟨h.1, by have := h.2.1; omega, h.2.2⟩
theorem EnvR.text {env : EnvT} {k : Nat} (h : EnvR env k) (s : BT) : (textOf (getT env s)).length ≤ 4000 := by
  cases hg : getT env s with
  | none => simp [textOf]
  | some y => exact (h.2.2 y (get_mem hg)).2
/-- What is told at a call's end, in two values. -/
def ResR (xb : Nat) (r : R) (u : ByteArray) (e : Int) (w : World) : Prop :=
  (r = .error e ∧ e ≠ 0 ∧ u = ⟨#[]⟩) ∨ ∃ n t, r = .ok (n, t) ∧ u = txt t ∧ e = 0 ∧ RAt w xb n ∧ n ≤ 2000
def PostR (xb : Nat) (r : R) (w : World) (e : Ending) (w' : World) : Prop := ∃ u c, e = .returned (.tuple #[.string u, .int .i64 c]) ∧ Steps xb w w' ∧ ResR xb r u c w'
theorem ResR.bad {xb : Nat} {r : R} {u : ByteArray} {c : Int} {w : World} (h : ResR xb r u c w) (hc : c ≠ 0) : r = .error c ∧ u = ⟨#[]⟩ := by
  rcases h with ⟨hr, _, h⟩ | ⟨_, _, _, _, h0, _⟩
  · exact ⟨hr, h⟩
  · exact absurd h0 hc
theorem ResR.good {xb : Nat} {r : R} {u : ByteArray} {w : World} (h : ResR xb r u 0 w) : ∃ n t, r = .ok (n, t) ∧ u = txt t ∧ RAt w xb n ∧ n ≤ 2000 := by
  rcases h with ⟨_, h0, _⟩ | ⟨n, t, hr, hu, _, hs, hn⟩
  · exact absurd rfl h0
  · exact ⟨n, t, hr, hu, hs, hn⟩
theorem ResR.told {xb : Nat} {r r' : R} {u : ByteArray} {c : Int} {w w' : World} (h : ResR xb r u c w') (he : r' = r) (hT : Steps xb w w') : PostR xb r' w (.returned (.tuple #[.string u, .int .i64 c])) w' := by
  subst he; exact ⟨u, c, rfl, hT, h⟩
theorem post_err {xb : Nat} {r : R} {c : Int} {w w' : World} (hr : r = .error c) (hc : c ≠ 0) (hT : Steps xb w w') : PostR xb r w (.returned (.tuple #[.string ⟨#[]⟩, .int .i64 c])) w' := ⟨_, c, rfl, hT, .inl ⟨hr, hc, rfl⟩⟩
theorem post_ok {xb n : Nat} {r : R} {t : BT} {w w' : World} (hr : r = .ok (n, t)) (hT : Steps xb w w') (hs : RAt w' xb n) (hn : n ≤ 2000) : PostR xb r w (.returned (.tuple #[.string (txt t), .int .i64 0])) w' := ⟨_, 0, rfl, hT, .inr ⟨n, t, hr, rfl, rfl, hs, hn⟩⟩
/-- That each call of a method, so many levels above the deepest one, tells f. -/
def MethR (F : FuncId) (f : EnvT → BT → Nat → R) (k : Nat) : Prop :=
  ∀ (xb n d : Nat) (o : Option Addr) (m c : Nat) (env : EnvT) (s : BT) (w : World), d + k = 20 → AtR xb n w (.slice o m c) env → EnvR env k → s.length ≤ 4000 →
    Calls Tryz.prog F #[.pointer (some ⟨xb, 0, none⟩), .agg #[.slice o m c], .string (txt s), .int .i64 (d : Int)] w (PostR xb (f env s n) w)
def RRef (k : Nat) : Prop := MethR 39 (refE k) k
def RVal (k : Nat) : Prop := MethR 40 (valE k) k
def RText (k : Nat) : Prop := MethR 24 (textE k) k

/-! ### begin -/
def BegR (xb n d : Nat) (w : World) (e : Ending) (w' : World) : Prop :=
  (d = 20 ∧ e = .returned (.int .i64 15) ∧ w' = w) ∨ (d < 20 ∧ n = 2000 ∧ e = .returned (.int .i64 12) ∧ Steps xb w w') ∨ (d < 20 ∧ n < 2000 ∧ e = .returned (.int .i64 0) ∧ Steps xb w w' ∧ RAt w' xb (n + 1))
set_option maxRecDepth 100000 in
set_option maxHeartbeats 2000000 in
theorem rbegin_any (xb n d : Nat) (w : World) (h : RAt w xb n) (hn : n ≤ 2000) (hd : d ≤ 20) : Calls Tryz.prog 50 #[.pointer (some ⟨xb, 0, none⟩), .int .i64 (d : Int)] w (BegR xb n d w) := by
  by_cases hd20 : d = 20
  · subst hd20
    go_enter Tryz.func50, Tryz.ntmps50
    go_wp2
    go_ret
    exact .inl ⟨rfl, rfl, rfl⟩
  · have e0 : ¬ (20 : Int) ≤ (d : Int) := by omega
    obtain ⟨c0, f0⟩ := one_cell h
    have h1 := h.put (n + 1)
    obtain ⟨c1, f1⟩ := one_cell h1
    have HT : Hid (Steps xb w (w.setCell ⟨xb, 0, none⟩ (.int .i64 ((n + 1 : Nat) : Int)))) := Turned.setCell _ _ _ rfl
    have H1 := Lib.hid h1
    have hc : ((n + 1 : Nat) : Int) = (n : Int) + 1 := by push_cast; rfl
    rw [hc] at c1 f1 HT H1
    have hw1 : IntKind.i64.wrap ((n : Int) + 1) = (n : Int) + 1 := by rw [IntKind.wrap_i64]; omega
    clear h h1 hc
    by_cases h2 : n = 2000
    · subst h2
      go_enter Tryz.func50, Tryz.ntmps50
      go_wp2
      go_ret
      exact .inr (.inl ⟨by omega, rfl, rfl, HT.out⟩)
    · have e1 : ¬ (2000 : Int) < (n : Int) + 1 := by omega
      go_enter Tryz.func50, Tryz.ntmps50
      go_wp2
      go_ret
      refine .inr (.inr ⟨by omega, by omega, rfl, HT.out, ?_⟩)
      have := H1.out
      unfold RAt
      push_cast
      exact this

/-! ### Get -/
def GetR (l : EnvT) (n : BT) (w : World) (e : Ending) (w' : World) : Prop := e = .returned (.tuple #[aggV ((getT l n).getD ([], [], false)), .bool (getT l n).isSome]) ∧ Later w w'
theorem get_here {l : EnvT} {n : BT} {i : Nat} {y : VarT} (h : ∀ z ∈ l.take i, z.1 ≠ n) (hy : l[i]? = some y) (he : y.1 = n) : getT l n = some y := by
  obtain ⟨hi, rfl⟩ := List.getElem?_eq_some_iff.1 hy
  unfold getT
  conv => lhs; rw [← List.take_append_drop i l, List.drop_eq_getElem_cons hi]
  rw [List.find?_append, List.find?_eq_none.2 (fun z hz => by simpa using h z hz), List.find?_cons_of_pos (by simpa using he)]
  rfl
theorem get_nowhere {l : EnvT} {n : BT} (h : ∀ z ∈ l, z.1 ≠ n) : getT l n = none := by
  unfold getT
  exact List.find?_eq_none.2 (fun z hz => by simpa using h z hz)
set_option maxRecDepth 100000 in
set_option maxHeartbeats 4000000 in
theorem rget_any (Q : Nat → Prop) (o : Option Addr) (m c : Nat) (l : EnvT) (n : ByteArray) (w : World) (h : EnvS w Q (.slice o m c) l) (hl : l.length ≤ 100000) :
    Calls Tryz.prog 16 #[.agg #[.slice o m c], .string n] w (GetR l n.data.toList w) := by
  have hm := h.len
  have hb : Later w _ := below_two w (.cells #[.slice o m c] 28) (.cells #[.string ⟨#[]⟩, .string ⟨#[]⟩, .bool false] 39)
  have h1 := heap_first w (.cells #[.slice o m c] 28) (.cells #[.string ⟨#[]⟩, .string ⟨#[]⟩, .bool false] 39)
  have h2 := heap_second w (.cells #[.slice o m c] 28) (.cells #[.string ⟨#[]⟩, .string ⟨#[]⟩, .bool false] 39)
  have HE := Lib.hid h
  have HM := Lib.hid hm
  have HB := Lib.hid hb
  have hm2 : m ≤ 100000 := by omega
  clear h hm hb
  go_enter Tryz.func16, Tryz.ntmps16
  go_wp2_with fail
  generalize (w.alloc (.cells #[.slice o m c] 28)).alloc (.cells #[.string ⟨#[]⟩, .string ⟨#[]⟩, .bool false] 39) = w1 at HB h1 h2 ⊢
  have H1 := Lib.hid h1
  have H2 := Lib.hid h2
  clear h1 h2
  go_loopw [6] (fun iv wr => ∃ i : Nat, i ≤ m ∧ iv = .int .i64 (i : Int) ∧ Hid (Later w1 wr) ∧ Hid (∀ z ∈ l.take i, z.1 ≠ n.data.toList)) (fun iv _ => m - (intOf iv).toNat)
  case atStart => exact ⟨0, Nat.zero_le _, rfl, Below.refl _ _, by show ∀ z ∈ _, _; simp⟩
  case round =>
    obtain ⟨i, hi, rfl, HL, HNo⟩ := hrel
    have hB1 := (HL.out.block _ (Array.getElem?_eq_some_iff.1 H1.out).1).trans H1.out
    have hB2 := (HL.out.block _ (Array.getElem?_eq_some_iff.1 H2.out).1).trans H2.out
    obtain ⟨v0, _⟩ := one_cell hB1
    by_cases hlt : i < m
    · obtain ⟨y, hy⟩ : ∃ y, l[i]? = some y := ⟨_, List.getElem?_eq_getElem (by rw [← HM.out]; exact hlt)⟩
      obtain ⟨b, rfl, hbl, hbc, hcy⟩ := HE.out.var hy
      obtain ⟨y0, y1, y2⟩ := hcy wr (HB.out.on HL.out)
      have HY := Lib.hid hy
      have hil : (i : Int) < (m : Int) := by omega
      have hi0 : (0 : Int) ≤ (i : Int) := by omega
      clear hy hcy
      by_cases hyn : y.1 = n.data.toList
      · have HG := Lib.hid (get_here HNo.out HY.out hyn)
        have e1 : ((txt y.1).toList == n.toList) = true := by rw [hyn, txt_toList]; simp
        obtain ⟨q0, q1, q2, f0, f1, f2⟩ := three_cells hB2
        have HB2 := Lib.hid hB2
        clear hyn hB1 hB2
        go_wp2_with fail
        have hh := set_three HB2.out (.string (txt y.1)) (.string (txt y.2.1)) (.bool y.2.2)
        have hbb : Later w ((((wr.setCell ⟨w.heap.size + 1, 0, none⟩ (.string (txt y.1))).setCell ⟨w.heap.size + 1, 1, none⟩ (.string (txt y.2.1))).setCell ⟨w.heap.size + 1, 2, none⟩ (.bool y.2.2))) := below_three (HB.out.on HL.out) (by omega) _ _ _
        generalize (((wr.setCell ⟨w.heap.size + 1, 0, none⟩ (.string (txt y.1))).setCell ⟨w.heap.size + 1, 1, none⟩ (.string (txt y.2.1))).setCell ⟨w.heap.size + 1, 2, none⟩ (.bool y.2.2)) = w9 at hh hbb ⊢
        obtain ⟨u0, u1, u2, _⟩ := three_cells hh
        exact bodyPost_ret (v := .tuple #[.agg #[.string (txt y.1), .string (txt y.2.1), .bool y.2.2], .bool true]) (by simp [results, Tryz.results16, go_sem, u0, u1, u2]) rfl ⟨by rw [HG.out]; rfl, hbb⟩
      · have e1 : ((txt y.1).toList == n.toList) = false := by rw [Lib.toList_data, Lib.toList_data, txt_data]; simpa using hyn
        have HN : Hid (∀ z ∈ l.take (i + 1), z.1 ≠ n.data.toList) := fun z hz => by
          rw [List.take_add_one, HY.out] at hz
          rcases List.mem_append.1 hz with hz | hz
          · exact HNo.out z hz
          · simp at hz; rw [hz]; exact hyn
        clear hyn hB1 hB2
        go_wp2_with fail
        go_roundw
        case rel => exact ⟨i + 1, hlt, by go_num, HL, HN⟩
        case measure => simp [intOf]; omega
    · have hil : ¬ (i : Int) < (m : Int) := by omega
      have HG : Hid (getT l n.data.toList = none) := get_nowhere (fun z hz => HNo.out z (by rw [List.take_of_length_le (by rw [← HM.out]; omega)]; exact hz))
      obtain ⟨q0, q1, q2, f0, f1, f2⟩ := three_cells hB2
      have HB2 := Lib.hid hB2
      clear hB1 hB2
      go_wp2_with fail
      have hh := set_three HB2.out (.string ⟨#[]⟩) (.string ⟨#[]⟩) (.bool false)
      have hbb : Later w ((((wr.setCell ⟨w.heap.size + 1, 0, none⟩ (.string ⟨#[]⟩)).setCell ⟨w.heap.size + 1, 1, none⟩ (.string ⟨#[]⟩)).setCell ⟨w.heap.size + 1, 2, none⟩ (.bool false))) := below_three (HB.out.on HL.out) (by omega) _ _ _
      generalize (((wr.setCell ⟨w.heap.size + 1, 0, none⟩ (.string ⟨#[]⟩)).setCell ⟨w.heap.size + 1, 1, none⟩ (.string ⟨#[]⟩)).setCell ⟨w.heap.size + 1, 2, none⟩ (.bool false)) = w9 at hh hbb ⊢
      obtain ⟨u0, u1, u2, _⟩ := three_cells hh
      exact bodyPost_ret (v := .tuple #[.agg #[.string ⟨#[]⟩, .string ⟨#[]⟩, .bool false], .bool false]) (by simp [results, Tryz.results16, go_sem, u0, u1, u2]) rfl ⟨by rw [HG.out]; rfl, hbb⟩
end Go.Proofs.YtbngoodjgijmgaaGreatDoor

namespace Go.Proofs.YtbngoodjgijmgaaGreatDoor
open Go.RowKit Go.Shelf
attribute [local go_sem] Oper.semAt_some

/-- text one level further down; at the deepest one nothing is asked. -/
def RBelow (k : Nat) : Prop := ∀ j, k = j + 1 → RText j
set_option maxRecDepth 100000 in
set_option maxHeartbeats 4000000 in
theorem rvalue_any (k : Nat) (hX : RBelow k) : RVal k := by
  intro xb n d o m c env s w hd h hE hs
  have hx := h.steps.lt
  have hb0 := Later.self w (.cells #[.slice o m c] 28)
  have hc0 := World.alloc_heap_new w (.cells #[.slice o m c] 28)
  have hG0 := rget_any _ o m c env (txt s) _ (h.env.below hb0) (by have := hE.2.1; omega)
  rw [txt_data] at hG0
  have HG : Hid (Calls Tryz.prog 16 #[.agg #[.slice o m c], .string (txt s)] (w.alloc (.cells #[.slice o m c] 28)) fun e w' => e = .returned (.tuple #[aggV ((getT env s).getD ([], [], false)), .bool (getT env s).isSome]) ∧ Later w w' ∧ w'.heap[w.heap.size]? = some (.cells #[.slice o m c] 28 (0, 0))) :=
    hG0.mono fun e w' hh => ⟨hh.1, hb0.on hh.2, (hh.2.block _ (by simp)).trans hc0⟩
  have HH := Lib.hid h
  clear hG0 hb0 hc0
  unfold aggV at HG
  rcases hg : getT env s with _ | ⟨y1, y2, y3⟩
  · have HV : Hid (valE k env s n = .ok (n, [])) := by
      show _ = _
      cases k with
      | zero => show valB (fun _ _ => .error 15) env s n = _; unfold valB; rw [hg]
      | succ j => show valB (fun s n' => stepR n' (textE j env s)) env s n = _; unfold valB; rw [hg]
    rw [hg] at HG
    clear hg hE hX h
    simp only [Option.getD_none, Option.isSome_none] at HG
    rw [txt_nil] at HG
    go_enter Tryz.func40, Tryz.ntmps40
    go_wp2_with fail
    refine HG.out.mono ?_
    rintro e w1 ⟨rfl, hb1, _⟩
    have HB2 := Lib.hid (hb1.put (.cells #[.string ⟨#[]⟩, .string ⟨#[]⟩, .bool false] 39))
    clear hb1 HG
    go_wp2_with fail
    go_ret2
    exact post_ok (t := []) HV.out (HB2.out.steps _) (HH.out.steps.on HB2.out) HH.out.few
  · have hyl := (hE.2.2 _ (get_mem hg)).2
    simp only at hyl
    rw [hg] at HG
    simp only [Option.getD_some, Option.isSome_some] at HG
    cases y3 with
    | true =>
      have HV : Hid (valE k env s n = .ok (n, y2)) := by
        show _ = _
        cases k with
        | zero => show valB (fun _ _ => .error 15) env s n = _; unfold valB; rw [hg]; exact fin_ok n hyl
        | succ j => show valB (fun s n' => stepR n' (textE j env s)) env s n = _; unfold valB; rw [hg]; exact fin_ok n hyl
      clear hg hE hX h
      go_enter Tryz.func40, Tryz.ntmps40
      go_wp2_with fail
      refine HG.out.mono ?_
      rintro e w1 ⟨rfl, hb1, _⟩
      have HB2 := Lib.hid (hb1.put (.cells #[.string (txt y1), .string (txt y2), .bool true] 39))
      clear hb1 HG
      go_wp2_with fail
      go_ret2
      exact post_ok HV.out (HB2.out.steps _) (HH.out.steps.on HB2.out) HH.out.few
    | false =>
      have HBg : Hid (∀ W, Later w W → Calls Tryz.prog 50 #[.pointer (some ⟨xb, 0, none⟩), .int .i64 (d : Int)] W (BegR xb n d W)) := fun W hb => rbegin_any xb n d W (h.steps.on hb) h.few (by omega)
      have HX : Hid (∀ j W, k = j + 1 → Steps xb w W → RAt W xb (n + 1) → n + 1 ≤ 2000 → Calls Tryz.prog 24 #[.pointer (some ⟨xb, 0, none⟩), .agg #[.slice o m c], .string (txt y2), .int .i64 ((d : Int) + 1)] W (PostR xb (textE j env y2 (n + 1)) W)) := fun j W hk hT hS hn => by
        subst hk
        exact hX j rfl xb (n + 1) (d + 1) o m c env y2 W (by omega) (h.turned hT hS hn) hE.less hyl
      have HV0 : Hid (k = 0 → valE k env s n = .error 15) := fun hk => by
        subst hk
        show valB (fun _ _ => .error 15) env s n = _; unfold valB; rw [hg]; rfl
      have HV1 : Hid (∀ j, k = j + 1 → valE k env s n = stepR n (textE j env y2)) := fun j hk => by
        subst hk
        show valB (fun s n' => stepR n' (textE j env s)) env s n = _; unfold valB; rw [hg]; rfl
      clear hg hE hX h
      go_enter Tryz.func40, Tryz.ntmps40
      go_wp2_with fail
      refine HG.out.mono ?_
      rintro e w1 ⟨rfl, hb1, hc1⟩
      have hl1 := (Array.getElem?_eq_some_iff.1 hc1).1
      have hb2 := hb1.put (.cells #[.string (txt y1), .string (txt y2), .bool false] 39)
      have HB1 := Lib.hid (HBg.out _ hb2)
      have HT2 : Hid (Steps xb w (w1.alloc (.cells #[.string (txt y1), .string (txt y2), .bool false] 39))) := hb2.steps xb
      have HK2 : Hid ((w1.alloc (.cells #[.string (txt y1), .string (txt y2), .bool false] 39)).heap[w1.heap.size]? = some (.cells #[.string (txt y1), .string (txt y2), .bool false] 39 (0, 0)) ∧ (w1.alloc (.cells #[.string (txt y1), .string (txt y2), .bool false] 39)).heap[w.heap.size]? = some (.cells #[.slice o m c] 28 (0, 0)) ∧ xb < w1.heap.size) :=
        ⟨World.alloc_heap_new w1 _, ((Later.self w1 _).block _ hl1).trans hc1, Nat.lt_of_lt_of_le hx hb1.size⟩
      clear hb1 hc1 HG hb2 HBg
      go_wp2_with fail
      refine HB1.out.mono ?_
      rintro e w3 hr3
      rcases hr3 with ⟨hd20, rfl, rfl⟩ | ⟨hd20, hn20, rfl, hT3⟩ | ⟨hd20, hn20, rfl, hT3, hs3⟩
      · have HE := Lib.hid (HV0.out (by omega))
        clear HV0 HV1 HX HK2 HB1
        go_wp2_with fail
        go_ret2
        exact post_err HE.out (by decide) HT2.out
      · obtain ⟨j, rfl⟩ : ∃ j, k = j + 1 := ⟨k - 1, by omega⟩
        have HE : Hid (valE (j + 1) env s n = .error 12) := by
          show _ = _
          rw [HV1.out j rfl]
          unfold stepR
          rw [if_pos (by omega)]
        have HT3 := Lib.hid (HT2.out.trans hT3)
        clear HV0 HV1 HX HK2 HB1 hT3
        go_wp2_with fail
        go_ret2
        exact post_err HE.out (by decide) HT3.out
      · obtain ⟨j, rfl⟩ : ∃ j, k = j + 1 := ⟨k - 1, by omega⟩
        have HE : Hid (valE (j + 1) env s n = textE j env y2 (n + 1)) := by
          show _ = _
          rw [HV1.out j rfl]
          unfold stepR
          rw [if_neg (by omega)]
        have HT3 := Lib.hid (HT2.out.trans hT3)
        have hv3 := (hT3.block w1.heap.size (by simp) (by have := HK2.out.2.2; omega)).trans HK2.out.1
        have hc3 := (hT3.block w.heap.size (by simp; omega) (by omega)).trans HK2.out.2.1
        obtain ⟨v0, v1, v2, _⟩ := three_cells hv3
        obtain ⟨q0, _⟩ := one_cell hc3
        have HX1 := Lib.hid (HX.out j w3 rfl HT3.out hs3 (by omega))
        clear HV0 HV1 HX HB1 hT3 hs3 hv3 hc3 HK2
        go_wp2_with fail
        refine HX1.out.mono ?_
        rintro e w5 ⟨u, cc, rfl, hT5, hR5⟩
        have HT5 := Lib.hid (HT3.out.trans hT5)
        have HR5 := Lib.hid hR5
        clear hT5 HX1 hR5
        go_wp2_with fail
        go_ret2
        exact HR5.out.told HE.out HT5.out
end Go.Proofs.YtbngoodjgijmgaaGreatDoor

namespace Go.Proofs.YtbngoodjgijmgaaGreatDoor
open Go.RowKit Go.Shelf
attribute [local go_sem] Oper.semAt_some

theorem cut_one_byte {z : ByteArray} {i : Nat} (h : i < z.size) : z.extract i (i + 1) = txt [z[i]] := by
  rw [extract_txt, rest_at h, show i + 1 - i = 1 by omega]; rfl
theorem byte_no {a b : UInt8} (h : a ≠ b) : ((a.toNat : Int) == (b.toNat : Int)) = false := by
  rw [beq_eq_false_iff_ne]
  intro e
  exact h (UInt8.toNat_inj.1 (Int.ofNat.inj e))
theorem byte_yes {a b : UInt8} (h : a ≠ b) : ((a.toNat : Int) != (b.toNat : Int)) = true := by
  rw [bne, byte_no h]; rfl
/-- What the loop over a text keeps. -/
structure TextR (xb n : Nat) (o : Option Addr) (m c : Nat) (rf vf : BT → Nat → R) (S : BT) (w : World) (i n' : Nat) (acc : BT) (W : World) : Prop where
  back : Steps xb w W
  steps : RAt W xb n'
  few : n' ≤ 2000
  box : W.heap[w.heap.size]? = some (.cells #[.slice o m c] 28 (0, 0))
  len : acc.length ≤ i * 4000
  body : bodyR rf vf S n = Rb (bodyR rf vf (S.drop i) n') fun k u => .ok (k, acc ++ u)
section
variable {xb n : Nat} {o : Option Addr} {m c : Nat} {rf vf : BT → Nat → R} {S : BT} {w : World} {i n' : Nat} {acc : BT} {W : World}
theorem TextR.byte (h : TextR xb n o m c rf vf S w i n' acc W) {b : UInt8} (hd : S.drop i = b :: S.drop (i + 1)) (hb : b ≠ 36) : TextR xb n o m c rf vf S w (i + 1) n' (acc ++ [b]) W :=
  ⟨h.back, h.steps, h.few, h.box, by have := h.len; rw [List.length_append]; simp; omega, by
    rw [h.body, hd, body_byte hb, Rb_assoc]
    congr 1
    funext k u
    rw [Rb_ok, List.append_assoc]; rfl⟩
theorem TextR.dol (h : TextR xb n o m c rf vf S w i n' acc W) (hx : xb < w.heap.size) {r rest t : BT} {j n2 : Nat} {W' : World} (hd : S.drop i = 36 :: r) (hr : dolR rf vf r n' = .ok (n2, t, rest)) (hrest : rest = S.drop (i + j)) (ht : t.length ≤ 4000) (hj : 1 ≤ j) (hT : Steps xb W W') (hs : RAt W' xb n2) (hn : n2 ≤ 2000) :
    TextR xb n o m c rf vf S w (i + j) n2 (acc ++ t) W' :=
  ⟨h.back.trans hT, hs, hn, (hT.block _ (Array.getElem?_eq_some_iff.1 h.box).1 (by omega)).trans h.box, by have := h.len; rw [List.length_append, Nat.add_mul]; omega, by
    rw [h.body, hd, body_dol, hr, Rb_ok, ← hrest, Rb_assoc]
    congr 1
    funext k u
    rw [Rb_ok, List.append_assoc]⟩
theorem TextR.err (h : TextR xb n o m c rf vf S w i n' acc W) {r : BT} {e : Int} (hd : S.drop i = 36 :: r) (hr : dolR rf vf r n' = .error e) : textR rf vf S n = .error e := by
  unfold textR
  rw [h.body, hd, body_dol, hr]; rfl
theorem TextR.done (h : TextR xb n o m c rf vf S w i n' acc W) (hi : S.length ≤ i) : textR rf vf S n = finR n' acc := by
  unfold textR
  rw [h.body, List.drop_eq_nil_of_le hi, body_nil, Rb_ok, Rb_ok, List.append_nil]
end
set_option maxRecDepth 100000 in
set_option maxHeartbeats 8000000 in
theorem rtext_any (k : Nat) (hR : RRef k) (hV : RVal k) : RText k := by
  intro xb n d o m c env s w hd h hE hs
  have hx := h.steps.lt
  have HDr : Hid (∀ (n' : Nat) (b : BT) (W : World), Steps xb w W → RAt W xb n' → n' ≤ 2000 → b.length ≤ 4000 → Calls Tryz.prog 39 #[.pointer (some ⟨xb, 0, none⟩), .agg #[.slice o m c], .string (txt b), .int .i64 (d : Int)] W (PostR xb (refE k env b n') W)) :=
    fun n' b W hT hS hn hb => hR xb n' d o m c env b W hd (h.turned hT hS hn) hE hb
  have HDv : Hid (∀ (n' : Nat) (b : BT) (W : World), Steps xb w W → RAt W xb n' → n' ≤ 2000 → b.length ≤ 4000 → Calls Tryz.prog 40 #[.pointer (some ⟨xb, 0, none⟩), .agg #[.slice o m c], .string (txt b), .int .i64 (d : Int)] W (PostR xb (valE k env b n') W)) :=
    fun n' b W hT hS hn hb => hV xb n' d o m c env b W hd (h.turned hT hS hn) hE hb
  have hEP : textE k env s n = textR (refE k env) (valE k env) s n := rfl
  rw [hEP]
  have H0 : Hid (TextR xb n o m c (refE k env) (valE k env) s w 0 n [] (w.alloc (.cells #[.slice o m c] 28))) :=
    ⟨(Later.self w _).steps xb, h.steps.on (Later.self w _), h.few, World.alloc_heap_new w _, by simp, by rw [List.drop_zero]; exact (Rb_self _).symm⟩
  obtain ⟨z, hz⟩ : ∃ z, z = txt s := ⟨_, rfl⟩
  have hzl : z.data.toList = s := by rw [hz, txt_data]
  have hzs : z.size = s.length := by rw [hz, txt_size]
  rw [← hz]
  have HZ := Lib.hid hzl
  have HZS := Lib.hid hzs
  have hz4 : z.size ≤ 4000 := by omega
  clear h hE hR hV hEP hz hzl hzs hs
  go_enter Tryz.func24, Tryz.ntmps24
  go_wp2_with fail
  go_loopw [10, 11] (fun ov iv wr => ∃ (i n' : Nat) (acc : BT), i ≤ z.size ∧ acc.length ≤ 16000000 ∧ ov = .string (txt acc) ∧ iv = .int .i64 (i : Int) ∧ Hid (TextR xb n o m c (refE k env) (valE k env) s w i n' acc wr)) (fun _ iv _ => z.size - (intOf iv).toNat)
  case atStart => exact ⟨0, n, [], Nat.zero_le _, by simp, rfl, rfl, H0⟩
  case round =>
    obtain ⟨i, n', acc, hi, hal, rfl, rfl, HA⟩ := hrel
    clear H0
    have hzacc : (txt acc).size = acc.length := txt_size _
    by_cases hlt : i < z.size
    · have hrest : s.drop i = z[i] :: s.drop (i + 1) := by rw [← HZ.out]; exact rest_at hlt
      have hil : (i : Int) < (z.size : Int) := by omega
      have hi0 : (0 : Int) ≤ (i : Int) := by omega
      by_cases h36 : z[i] = 36
      · rw [h36] at hrest
        have e1 : ((z[i].toNat : Int) != 36) = false := by rw [h36]; rfl
        by_cases hlast : i + 1 = z.size
        · have e2 : ((i : Int) + 1 == (z.size : Int)) = true := by rw [beq_iff_eq]; omega
          have hr0 : s.drop (i + 1) = [] := List.drop_eq_nil_of_le (by rw [← HZS.out]; omega)
          have HE := Lib.hid (HA.out.err hrest (by rw [hr0]; rfl : dolR (refE k env) (valE k env) (s.drop (i + 1)) n' = .error 2))
          clear hrest h36 hr0
          go_wp2_with fail
          go_ret2
          exact post_err HE.out (by decide) HA.out.back
        · have e2 : ((i : Int) + 1 == (z.size : Int)) = false := by rw [beq_eq_false_iff_ne]; omega
          have hlt1 : i + 1 < z.size := by omega
          have hi1 : (i : Int) + 1 < (z.size : Int) := by omega
          have hrest1 : s.drop (i + 1) = z[i + 1] :: s.drop (i + 2) := by rw [← HZ.out]; exact rest_at hlt1
          have hi2 : (i : Int) + 1 ≤ (i : Int) + 2 := by omega
          have hi3 : (i : Int) + 2 ≤ (z.size : Int) := by omega
          have hi4 : (0 : Int) ≤ (i : Int) + 1 := by omega
          rw [hrest1] at hrest
          obtain ⟨q0, _⟩ := one_cell HA.out.box
          have hfew := HA.out.few
          clear h36 hlast hrest1
          by_cases h40 : z[i + 1] = 40
          · have e3 : ((z[i + 1].toNat : Int) == 40) = true := by rw [h40]; rfl
            rw [h40] at hrest
            have hcl := closed_any 41 40 (s.drop (i + 2)) rfl (by rw [List.length_drop, ← HZS.out]; omega)
            have hex : z.extract i z.size = txt (36 :: 40 :: s.drop (i + 2)) := by
              rw [extract_txt, take_rest, HZ.out, hrest]
            rw [← hex] at hcl
            have HCl : Hid (∀ W, Calls Tryz.prog 38 #[.string (z.extract i z.size)] W fun e w' => e = .returned (.int .i64 (closeI 41 (s.drop (i + 2)))) ∧ Later W w') := hcl
            have hdol : dolR (refE k env) (valE k env) (40 :: s.drop (i + 2)) n' = refAt (refE k env) 41 (s.drop (i + 2)) n' := by
              rw [dol_cons]; rfl
            clear hcl hex
            by_cases hsg : (cutOf [[41]] (s.drop (i + 2))).2.1 = []
            · have hcI : closeI 41 (s.drop (i + 2)) = -1 := if_pos hsg
              rw [hcI] at HCl
              have HE := Lib.hid (HA.out.err hrest (by rw [hdol]; unfold refAt; rw [if_pos hsg] : dolR (refE k env) (valE k env) (40 :: s.drop (i + 2)) n' = .error 2))
              clear hsg hcI hdol hrest h40
              go_wp2_with fail
              refine (HCl.out _).mono ?_
              rintro e w2 ⟨rfl, hb2⟩
              have HB2 := Lib.hid hb2
              clear hb2
              go_wp2_with fail
              go_ret2
              exact post_err HE.out (by decide) (HA.out.back.trans (HB2.out.steps _))
            · obtain ⟨hs1, hs2, hs3, hs4⟩ := cut_sign hsg
              obtain ⟨L, hL⟩ : ∃ L, L = (cutOf [[41]] (s.drop (i + 2))).1.length + 2 := ⟨_, rfl⟩
              obtain ⟨c1, hc1⟩ : ∃ c1, c1 = (cutOf [[41]] (s.drop (i + 2))).1 := ⟨_, rfl⟩
              have hcI : closeI 41 (s.drop (i + 2)) = (L : Int) := by
                unfold closeI
                rw [if_neg hsg, hL]; push_cast; rfl
              rw [hcI] at HCl
              have hc1l : c1.length + 2 = L := by rw [hc1, hL]
              rw [List.length_drop, ← HZS.out, ← hc1] at hs4
              have hx1 : z.extract (i + 2) (i + L) = txt c1 := by
                rw [extract_txt, HZ.out, show i + L - (i + 2) = c1.length by omega, hc1, ← hs2]
              have hrf : ∀ m2 t, refE k env c1 n' = .ok (m2, t) → dolR (refE k env) (valE k env) (40 :: s.drop (i + 2)) n' = .ok (m2, t, s.drop (i + (L + 1))) := fun m2 t ht => by
                rw [hdol]; unfold refAt
                rw [if_neg hsg, ← hc1, ht, Rb_ok, hs3, List.drop_drop, show i + 2 + ((cutOf [[41]] (s.drop (i + 2))).1.length + 1) = i + (L + 1) by rw [hL]; omega]
              have HRf := Lib.hid hrf
              have HRe : Hid (∀ e, refE k env c1 n' = .error e → dolR (refE k env) (valE k env) (40 :: s.drop (i + 2)) n' = .error e) := fun e he => by
                rw [hdol]; unfold refAt
                rw [if_neg hsg, ← hc1, he]; rfl
              have HRest := Lib.hid hrest
              have g1 : ¬ (L : Int) < 0 := by omega
              have g2 : (i : Int) + 2 ≤ (i : Int) + (L : Int) := by omega
              have g3 : (i : Int) + (L : Int) ≤ (z.size : Int) := by omega
              have g4 : (0 : Int) ≤ (i : Int) + 2 := by omega
              obtain ⟨pa, hpa⟩ : ∃ pa : Nat, pa = i + 2 := ⟨_, rfl⟩
              obtain ⟨pb, hpb⟩ : ∃ pb : Nat, pb = i + L := ⟨_, rfl⟩
              have g5 : IntKind.i64.wrap (pa : Int) = (pa : Int) := by rw [IntKind.wrap_i64]; omega
              have g6 : IntKind.i64.wrap (pb : Int) = (pb : Int) := by rw [IntKind.wrap_i64]; omega
              have g7 : (i : Int) + 2 = (pa : Int) := by omega
              have g8 : (i : Int) + (L : Int) = (pb : Int) := by omega
              have g9 : z.extract pa pb = txt c1 := by rw [hpa, hpb]; exact hx1
              have ga : (0 : Int) ≤ (pa : Int) := by omega
              have gb : (pa : Int) ≤ (pb : Int) := by omega
              have gc : (pb : Int) ≤ (z.size : Int) := by omega
              have HDr1 : Hid (∀ W, Steps xb w W → RAt W xb n' → Calls Tryz.prog 39 #[.pointer (some ⟨xb, 0, none⟩), .agg #[.slice o m c], .string (txt c1), .int .i64 (d : Int)] W (PostR xb (refE k env c1 n') W)) := fun W hT hS => HDr.out n' c1 W hT hS hfew (by omega)
              have HSh : Hid (∀ m2 t, refE k env c1 n' = .ok (m2, t) → t.length ≤ 4000) := fun m2 t ht => short_refE k env _ n' m2 t ht
              have hLz : i + (L + 1) ≤ z.size := by omega
              clear hs1 hs2 hs3 hs4 hL hc1 hcI hrf hdol hsg hrest h40 HDr HDv hx1 hpa hpb
              go_wp2_with fail
              refine (HCl.out _).mono ?_
              rintro e w2 ⟨rfl, hb2⟩
              have HT2 : Hid (Steps xb w w2) := HA.out.back.trans (hb2.steps _)
              have HS2 : Hid (RAt w2 xb n') := HA.out.steps.on hb2
              have q2 := (one_cell ((hb2.block _ (Array.getElem?_eq_some_iff.1 HA.out.box).1).trans HA.out.box)).1
              have HU2 : Hid (Steps xb wr w2) := hb2.steps _
              clear hb2 q0 HCl
              go_wp2_with fail
              go_region_held3 (fun w' => w'.cell? ⟨w.heap.size, 0, none⟩ = some (.slice o m c))
                (first | (go_keep; done))
                (first | (go_at_call 39; (first | refine (HDr1.out _ (HT2.out.trans (Turned.drew _ _)) HS2.out).mono ?_ | refine (HDr1.out _ HT2.out HS2.out).mono ?_); rintro e w3 ⟨u3, c3, rfl, hT3, hR3⟩; have HT3 : Hid (Steps xb w2 w3) := (by first | exact (Turned.drew _ _).trans hT3 | exact hT3); have HR3 := Lib.hid hR3; clear hT3 hR3; obtain ⟨k0, _⟩ := one_cell ((((HU2.out.trans HT3.out)).block _ (Array.getElem?_eq_some_iff.1 HA.out.box).1 (by omega)).trans HA.out.box)))
              by_cases hc3 : c3 = 0
              · subst hc3
                obtain ⟨n3, t3, hr3, hu3, hs3, hn3⟩ := HR3.out.good
                subst hu3
                have hsh := HSh.out n3 t3 hr3
                have HN := Lib.hid (HA.out.dol hx HRest.out (HRf.out n3 t3 hr3) rfl hsh (by omega) (HU2.out.trans HT3.out) hs3 hn3)
                have hln := HN.out.len
                have b1 : (txt acc ++ txt t3).size ≤ 17000000 := by rw [ByteArray.size_append, txt_size, txt_size]; omega
                have x9 : txt acc ++ txt t3 = txt (acc ++ t3) := add_txt _ _
                have hal2 : (acc ++ t3).length ≤ 16000000 := by
                  have : (i + (L + 1)) * 4000 ≤ 4000 * 4000 := Nat.mul_le_mul_right _ (by omega)
                  omega
                clear hr3 hs3 HR3 HRf HRe HSh hln
                go_wp2_with fail
                go_roundw
                case rel => exact ⟨i + (L + 1), n3, acc ++ t3, hLz, hal2, by first | rfl | exact congrArg Value.string x9, by go_num, HN⟩
                case measure => simp [intOf]; omega
              · obtain ⟨hr3, rfl⟩ := HR3.out.bad hc3
                have HE := Lib.hid (HA.out.err HRest.out (HRe.out c3 hr3))
                have e5 : (c3 != 0) = true := by rw [bne_iff_ne]; exact hc3
                have HC3 := Lib.hid hc3
                clear hr3 HR3 HRf HRe HSh hc3
                go_wp2_with fail
                go_ret2
                exact post_err HE.out HC3.out (HT2.out.trans HT3.out)
          by_cases h123 : z[i + 1] = 123
          · have e3 : ((z[i + 1].toNat : Int) == 40) = false := by rw [h123]; rfl
            have e4 : ((z[i + 1].toNat : Int) == 123) = true := by rw [h123]; rfl
            rw [h123] at hrest
            have hcl := closed_any 125 123 (s.drop (i + 2)) rfl (by rw [List.length_drop, ← HZS.out]; omega)
            have hex : z.extract i z.size = txt (36 :: 123 :: s.drop (i + 2)) := by
              rw [extract_txt, take_rest, HZ.out, hrest]
            rw [← hex] at hcl
            have HCl : Hid (∀ W, Calls Tryz.prog 38 #[.string (z.extract i z.size)] W fun e w' => e = .returned (.int .i64 (closeI 125 (s.drop (i + 2)))) ∧ Later W w') := hcl
            have hdol : dolR (refE k env) (valE k env) (123 :: s.drop (i + 2)) n' = refAt (refE k env) 125 (s.drop (i + 2)) n' := by
              rw [dol_cons]; rfl
            clear hcl hex
            by_cases hsg : (cutOf [[125]] (s.drop (i + 2))).2.1 = []
            · have hcI : closeI 125 (s.drop (i + 2)) = -1 := if_pos hsg
              rw [hcI] at HCl
              have HE := Lib.hid (HA.out.err hrest (by rw [hdol]; unfold refAt; rw [if_pos hsg] : dolR (refE k env) (valE k env) (123 :: s.drop (i + 2)) n' = .error 2))
              clear hsg hcI hdol hrest h123
              go_wp2_with fail
              refine (HCl.out _).mono ?_
              rintro e w2 ⟨rfl, hb2⟩
              have HB2 := Lib.hid hb2
              clear hb2
              go_wp2_with fail
              go_ret2
              exact post_err HE.out (by decide) (HA.out.back.trans (HB2.out.steps _))
            · obtain ⟨hs1, hs2, hs3, hs4⟩ := cut_sign hsg
              obtain ⟨L, hL⟩ : ∃ L, L = (cutOf [[125]] (s.drop (i + 2))).1.length + 2 := ⟨_, rfl⟩
              obtain ⟨c1, hc1⟩ : ∃ c1, c1 = (cutOf [[125]] (s.drop (i + 2))).1 := ⟨_, rfl⟩
              have hcI : closeI 125 (s.drop (i + 2)) = (L : Int) := by
                unfold closeI
                rw [if_neg hsg, hL]; push_cast; rfl
              rw [hcI] at HCl
              have hc1l : c1.length + 2 = L := by rw [hc1, hL]
              rw [List.length_drop, ← HZS.out, ← hc1] at hs4
              have hx1 : z.extract (i + 2) (i + L) = txt c1 := by
                rw [extract_txt, HZ.out, show i + L - (i + 2) = c1.length by omega, hc1, ← hs2]
              have hrf : ∀ m2 t, refE k env c1 n' = .ok (m2, t) → dolR (refE k env) (valE k env) (123 :: s.drop (i + 2)) n' = .ok (m2, t, s.drop (i + (L + 1))) := fun m2 t ht => by
                rw [hdol]; unfold refAt
                rw [if_neg hsg, ← hc1, ht, Rb_ok, hs3, List.drop_drop, show i + 2 + ((cutOf [[125]] (s.drop (i + 2))).1.length + 1) = i + (L + 1) by rw [hL]; omega]
              have HRf := Lib.hid hrf
              have HRe : Hid (∀ e, refE k env c1 n' = .error e → dolR (refE k env) (valE k env) (123 :: s.drop (i + 2)) n' = .error e) := fun e he => by
                rw [hdol]; unfold refAt
                rw [if_neg hsg, ← hc1, he]; rfl
              have HRest := Lib.hid hrest
              have g1 : ¬ (L : Int) < 0 := by omega
              have g2 : (i : Int) + 2 ≤ (i : Int) + (L : Int) := by omega
              have g3 : (i : Int) + (L : Int) ≤ (z.size : Int) := by omega
              have g4 : (0 : Int) ≤ (i : Int) + 2 := by omega
              obtain ⟨pa, hpa⟩ : ∃ pa : Nat, pa = i + 2 := ⟨_, rfl⟩
              obtain ⟨pb, hpb⟩ : ∃ pb : Nat, pb = i + L := ⟨_, rfl⟩
              have g5 : IntKind.i64.wrap (pa : Int) = (pa : Int) := by rw [IntKind.wrap_i64]; omega
              have g6 : IntKind.i64.wrap (pb : Int) = (pb : Int) := by rw [IntKind.wrap_i64]; omega
              have g7 : (i : Int) + 2 = (pa : Int) := by omega
              have g8 : (i : Int) + (L : Int) = (pb : Int) := by omega
              have g9 : z.extract pa pb = txt c1 := by rw [hpa, hpb]; exact hx1
              have ga : (0 : Int) ≤ (pa : Int) := by omega
              have gb : (pa : Int) ≤ (pb : Int) := by omega
              have gc : (pb : Int) ≤ (z.size : Int) := by omega
              have HDr1 : Hid (∀ W, Steps xb w W → RAt W xb n' → Calls Tryz.prog 39 #[.pointer (some ⟨xb, 0, none⟩), .agg #[.slice o m c], .string (txt c1), .int .i64 (d : Int)] W (PostR xb (refE k env c1 n') W)) := fun W hT hS => HDr.out n' c1 W hT hS hfew (by omega)
              have HSh : Hid (∀ m2 t, refE k env c1 n' = .ok (m2, t) → t.length ≤ 4000) := fun m2 t ht => short_refE k env _ n' m2 t ht
              have hLz : i + (L + 1) ≤ z.size := by omega
              clear hs1 hs2 hs3 hs4 hL hc1 hcI hrf hdol hsg hrest h123 HDr HDv hx1 hpa hpb
              go_wp2_with fail
              refine (HCl.out _).mono ?_
              rintro e w2 ⟨rfl, hb2⟩
              have HT2 : Hid (Steps xb w w2) := HA.out.back.trans (hb2.steps _)
              have HS2 : Hid (RAt w2 xb n') := HA.out.steps.on hb2
              have q2 := (one_cell ((hb2.block _ (Array.getElem?_eq_some_iff.1 HA.out.box).1).trans HA.out.box)).1
              have HU2 : Hid (Steps xb wr w2) := hb2.steps _
              clear hb2 q0 HCl
              go_wp2_with fail
              go_region_held3 (fun w' => w'.cell? ⟨w.heap.size, 0, none⟩ = some (.slice o m c))
                (first | (go_keep; done))
                (first | (go_at_call 39; (first | refine (HDr1.out _ (HT2.out.trans (Turned.drew _ _)) HS2.out).mono ?_ | refine (HDr1.out _ HT2.out HS2.out).mono ?_); rintro e w3 ⟨u3, c3, rfl, hT3, hR3⟩; have HT3 : Hid (Steps xb w2 w3) := (by first | exact (Turned.drew _ _).trans hT3 | exact hT3); have HR3 := Lib.hid hR3; clear hT3 hR3; obtain ⟨k0, _⟩ := one_cell ((((HU2.out.trans HT3.out)).block _ (Array.getElem?_eq_some_iff.1 HA.out.box).1 (by omega)).trans HA.out.box)))
              by_cases hc3 : c3 = 0
              · subst hc3
                obtain ⟨n3, t3, hr3, hu3, hs3, hn3⟩ := HR3.out.good
                subst hu3
                have hsh := HSh.out n3 t3 hr3
                have HN := Lib.hid (HA.out.dol hx HRest.out (HRf.out n3 t3 hr3) rfl hsh (by omega) (HU2.out.trans HT3.out) hs3 hn3)
                have hln := HN.out.len
                have b1 : (txt acc ++ txt t3).size ≤ 17000000 := by rw [ByteArray.size_append, txt_size, txt_size]; omega
                have x9 : txt acc ++ txt t3 = txt (acc ++ t3) := add_txt _ _
                have hal2 : (acc ++ t3).length ≤ 16000000 := by
                  have : (i + (L + 1)) * 4000 ≤ 4000 * 4000 := Nat.mul_le_mul_right _ (by omega)
                  omega
                clear hr3 hs3 HR3 HRf HRe HSh hln
                go_wp2_with fail
                go_roundw
                case rel => exact ⟨i + (L + 1), n3, acc ++ t3, hLz, hal2, by first | rfl | exact congrArg Value.string x9, by go_num, HN⟩
                case measure => simp [intOf]; omega
              · obtain ⟨hr3, rfl⟩ := HR3.out.bad hc3
                have HE := Lib.hid (HA.out.err HRest.out (HRe.out c3 hr3))
                have e5 : (c3 != 0) = true := by rw [bne_iff_ne]; exact hc3
                have HC3 := Lib.hid hc3
                clear hr3 HR3 HRf HRe HSh hc3
                go_wp2_with fail
                go_ret2
                exact post_err HE.out HC3.out (HT2.out.trans HT3.out)
          have e3 : ((z[i + 1].toNat : Int) == 40) = false := byte_no h40
          have e4 : ((z[i + 1].toNat : Int) == 123) = false := byte_no h123
          by_cases h362 : z[i + 1] = 36
          · have e5 : ((z[i + 1].toNat : Int) != 36) = false := by rw [h362]; rfl
            rw [h362] at hrest
            have HN := Lib.hid (HA.out.dol (j := 2) (t := [36]) (rest := s.drop (i + 2)) (n2 := n') hx hrest (by rw [dol_cons, if_pos rfl]) rfl (by simp) (by omega) (Turned.refl _ _) HA.out.steps HA.out.few)
            have b1 : (txt acc ++ ⟨#[36]⟩).size ≤ 17000000 := by rw [ByteArray.size_append, txt_size]; show _ + 1 ≤ _; omega
            have x9 : txt acc ++ ⟨#[36]⟩ = txt (acc ++ [36]) := add_txt acc [36]
            have hal2 : (acc ++ [36]).length ≤ 16000000 := by
              have := HN.out.len
              have : (i + 2) * 4000 ≤ 4000 * 4000 := Nat.mul_le_mul_right _ (by omega)
              omega
            have hlz : i + 2 ≤ z.size := by omega
            clear hrest h40 h123 h362 HDr HDv
            go_wp2_with fail
            go_roundw
            case rel => exact ⟨i + 2, n', acc ++ [36], hlz, hal2, by first | rfl | exact congrArg Value.string x9, by go_num, HN⟩
            case measure => simp [intOf]; omega
          · have e5 : ((z[i + 1].toNat : Int) != 36) = true := byte_yes h362
            have hx1 : z.extract (i + 1) (i + 2) = txt [z[i + 1]] := cut_one_byte hlt1
            have hdol : dolR (refE k env) (valE k env) (z[i + 1] :: s.drop (i + 2)) n' = Rb (valE k env [z[i + 1]] n') fun m t => .ok (m, t, s.drop (i + 2)) := by
              rw [dol_cons, if_neg h362, if_neg h40, if_neg h123]
            have HRf : Hid (∀ m2 t, valE k env [z[i + 1]] n' = .ok (m2, t) → dolR (refE k env) (valE k env) (z[i + 1] :: s.drop (i + 2)) n' = .ok (m2, t, s.drop (i + 2))) := fun m2 t ht => by rw [hdol, ht]; rfl
            have HRe : Hid (∀ e, valE k env [z[i + 1]] n' = .error e → dolR (refE k env) (valE k env) (z[i + 1] :: s.drop (i + 2)) n' = .error e) := fun e he => by rw [hdol, he]; rfl
            have HRest := Lib.hid hrest
            obtain ⟨pa, hpa⟩ : ∃ pa : Nat, pa = i + 1 := ⟨_, rfl⟩
            obtain ⟨pb, hpb⟩ : ∃ pb : Nat, pb = i + 2 := ⟨_, rfl⟩
            have g9 : z.extract pa pb = txt [z[i + 1]] := by rw [hpa, hpb]; exact hx1
            have ga : (0 : Int) ≤ (pa : Int) := by omega
            have gb : (pa : Int) ≤ (pb : Int) := by omega
            have gc : (pb : Int) ≤ (z.size : Int) := by omega
            have HDv1 : Hid (∀ W, Steps xb w W → RAt W xb n' → Calls Tryz.prog 40 #[.pointer (some ⟨xb, 0, none⟩), .agg #[.slice o m c], .string (txt [z[i + 1]]), .int .i64 (d : Int)] W (PostR xb (valE k env [z[i + 1]] n') W)) := fun W hT hS => HDv.out n' [z[i + 1]] W hT hS hfew (by simp)
            have HSh : Hid (∀ m2 t, valE k env [z[i + 1]] n' = .ok (m2, t) → t.length ≤ 4000) := fun m2 t ht => short_valE k env _ n' m2 t ht
            have hlz : i + 2 ≤ z.size := by omega
            have HBk := Lib.hid HA.out.back
            have HSt := Lib.hid HA.out.steps
            have HPA := Lib.hid (And.intro hpa hpb)
            clear hdol hrest h40 h123 h362 HDr HDv hx1 hpa hpb
            obtain ⟨cb, hcb⟩ : ∃ cb, cb = txt [z[i + 1]] := ⟨_, rfl⟩
            rw [← hcb] at g9 HDv1
            clear hcb
            go_wp2_with fail
            have g5 : IntKind.i64.wrap (pa : Int) = (pa : Int) := by have := HPA.out; rw [IntKind.wrap_i64]; omega
            have g6 : IntKind.i64.wrap (pb : Int) = (pb : Int) := by have := HPA.out; rw [IntKind.wrap_i64]; omega
            have g7 : (i : Int) + 1 = (pa : Int) := by have := HPA.out; omega
            have g8 : (i : Int) + 2 = (pb : Int) := by have := HPA.out; omega
            go_region_held3 (fun w' => w'.cell? ⟨w.heap.size, 0, none⟩ = some (.slice o m c))
              (first | (go_keep; done))
              (first | (go_at_call 40; (first | refine (HDv1.out _ (HBk.out.trans (Turned.drew _ _)) HSt.out).mono ?_ | refine (HDv1.out _ HBk.out HSt.out).mono ?_); rintro e w3 ⟨u3, c3, rfl, hT3, hR3⟩; have HT3 : Hid (Steps xb wr w3) := (by first | exact (Turned.drew _ _).trans hT3 | exact hT3); have HR3 := Lib.hid hR3; clear hT3 hR3; obtain ⟨k0, _⟩ := one_cell ((HT3.out.block _ (Array.getElem?_eq_some_iff.1 HA.out.box).1 (by omega)).trans HA.out.box)))
            by_cases hc3 : c3 = 0
            · subst hc3
              obtain ⟨n3, t3, hr3, hu3, hs3, hn3⟩ := HR3.out.good
              subst hu3
              have hsh := HSh.out n3 t3 hr3
              have HN := Lib.hid (HA.out.dol hx HRest.out (HRf.out n3 t3 hr3) rfl hsh (by omega) HT3.out hs3 hn3)
              have hln := HN.out.len
              have b1 : (txt acc ++ txt t3).size ≤ 17000000 := by rw [ByteArray.size_append, txt_size, txt_size]; omega
              have x9 : txt acc ++ txt t3 = txt (acc ++ t3) := add_txt _ _
              have hal2 : (acc ++ t3).length ≤ 16000000 := by
                have : (i + 2) * 4000 ≤ 4000 * 4000 := Nat.mul_le_mul_right _ (by omega)
                omega
              clear hr3 hs3 HR3 HRf HRe HSh hln
              go_wp2_with fail
              go_roundw
              case rel => exact ⟨i + 2, n3, acc ++ t3, hlz, hal2, by first | rfl | exact congrArg Value.string x9, by go_num, HN⟩
              case measure => simp [intOf]; omega
            · obtain ⟨hr3, rfl⟩ := HR3.out.bad hc3
              have HE := Lib.hid (HA.out.err HRest.out (HRe.out c3 hr3))
              have e6 : (c3 != 0) = true := by rw [bne_iff_ne]; exact hc3
              have HC3 := Lib.hid hc3
              clear hr3 HR3 HRf HRe HSh hc3
              go_wp2_with fail
              go_ret2
              exact post_err HE.out HC3.out (HA.out.back.trans HT3.out)
      · have e1 : ((z[i].toNat : Int) != 36) = true := byte_yes h36
        have HN := Lib.hid (HA.out.byte hrest h36)
        have hx1 : z.extract i (i + 1) = txt [z[i]] := cut_one_byte hlt
        have b1 : (txt acc ++ txt [z[i]]).size ≤ 17000000 := by rw [ByteArray.size_append, txt_size, txt_size]; simp; omega
        have x9 : txt acc ++ txt [z[i]] = txt (acc ++ [z[i]]) := add_txt _ _
        have hal2 : (acc ++ [z[i]]).length ≤ 16000000 := by
          have := HN.out.len
          have : (i + 1) * 4000 ≤ 4000 * 4000 := Nat.mul_le_mul_right _ (by omega)
          omega
        have hi2 : (i : Int) ≤ (i : Int) + 1 := by omega
        have hi3 : (i : Int) + 1 ≤ (z.size : Int) := by omega
        clear hrest h36 HDr HDv
        go_wp2_with fail
        go_roundw
        case rel => exact ⟨i + 1, n', acc ++ [z[i]], hlt, hal2, by first | rfl | exact congrArg Value.string x9, by go_num, HN⟩
        case measure => simp [intOf]; omega
    · have hD := HA.out.done (by rw [← HZS.out]; omega)
      have hil : ¬ (i : Int) < (z.size : Int) := by omega
      by_cases h4 : 4000 < acc.length
      · rw [fin_err n' h4] at hD
        have HE := Lib.hid hD
        have g1 : (4000 : Int) < (acc.length : Int) := by omega
        clear hD h4 HDr HDv
        go_wp2_with fail
        go_ret2
        exact post_err HE.out (by decide) HA.out.back
      · rw [fin_ok n' (by omega)] at hD
        have HE := Lib.hid hD
        have g1 : ¬ (4000 : Int) < (acc.length : Int) := by omega
        clear hD h4 HDr HDv
        go_wp2_with fail
        go_ret2
        exact post_ok HE.out HA.out.back HA.out.steps HA.out.few
end Go.Proofs.YtbngoodjgijmgaaGreatDoor

namespace Go.Proofs.YtbngoodjgijmgaaGreatDoor
open Go.RowKit Go.Shelf
attribute [local go_sem] Oper.semAt_some

/-- Cut at one sign, as a row of its own that is just made. -/
theorem rcut_one (W : World) (s : BT) (q : BT) (hs : s.length ≤ 1000000) (hq : q.length ≤ 100) : Calls Tryz.prog 56 #[.string (txt s), .slice (some ⟨W.heap.size, 0, none⟩) 1 1] (W.alloc (.cells #[.string (txt q)] 9))
    fun e w' => e = .returned (.tuple #[.string (txt (cutOf [q] s).1), .string (txt (cutOf [q] s).2.1), .string (txt (cutOf [q] s).2.2)]) ∧ Below W.heap.size W w' := by
  have hb : Below W.heap.size W (W.alloc (.cells #[.string (txt q)] 9)) := (Below.refl _ W).alloc (Nat.le_refl _) _
  refine (cut9_any _ [q] (txt s) _ (one_reads W q) (by simp) (fun x hx => by simp at hx; subst hx; omega) (by rw [txt_size]; exact hs)).mono ?_
  rintro e w' ⟨he, hb2⟩
  rw [txt_data] at he
  exact ⟨he, hb.trans (hb2.mono hb.size)⟩
set_option maxRecDepth 100000 in
set_option maxHeartbeats 2000000 in
theorem rleft_any (s : BT) (w : World) : Calls Tryz.prog 54 #[.string (txt s)] w fun e w' => e = .returned (.string (txt (cutL s))) ∧ w = w' := by
  go_enter Tryz.func54, Tryz.ntmps54
  go_wp2
  go_loop [0] (fun sv => ∃ (z : ByteArray), sv = .string z ∧ Hid (cutL z.data.toList = cutL s)) (fun sv => strLen sv)
  case atStart => exact ⟨txt s, rfl, by show _ = _; rw [txt_data]⟩
  case round =>
    obtain ⟨z, rfl, HC⟩ := hrel
    cases hz : z.data.toList with
    | nil =>
      have e0 : z.toList.isEmpty = true := by rw [Lib.toList_data, hz]; rfl
      have hze : z = txt [] := by rw [← txt_toList z, hz]
      have HV : Hid (txt (cutL s) = z) := by
        show _ = _
        rw [← HC.out, hz, hze]; rfl
      clear hz hze
      go_wp2
      go_ret
      exact ⟨by rw [HV.out]; rfl, rfl⟩
    | cons c r =>
      have hsz : 0 < z.size := by rw [← size_list, hz]; simp
      have e0 : z.toList.isEmpty = false := by rw [Lib.toList_data, hz]; rfl
      have hc : z[0] = c := by
        have := rest_at hsz
        rw [List.drop_zero, hz] at this
        exact (List.cons.inj this).1.symm
      have hx1 : z.extract 1 z.size = txt r := by rw [extract_txt, take_rest, hz]; rfl
      have h1 : (1 : Int) ≤ (z.size : Int) := by omega
      have hr : r.length < z.size := by rw [← size_list, hz]; simp
      by_cases hb : blankB c = true
      · have HN : Hid (cutL (txt r).data.toList = cutL s) := by
          show _ = _
          rw [← HC.out, hz, txt_data]
          unfold cutL
          rw [List.dropWhile_cons, if_pos hb]
        have h9 : c.toNat = 32 ∨ c.toNat = 9 := by unfold blankB at hb; simpa using hb
        have hlen : strLen (.string (txt r)) < strLen (.string z) := by simp only [strLen, txt_size]; exact hr
        rw [← hc] at h9
        clear hz hb hc hr HC
        rcases h9 with h9 | h9
        · have e1 : ((z[0].toNat : Int) == 32) = true := by rw [h9]; rfl
          clear h9
          go_wp2
          go_round
          case rel => exact ⟨txt r, rfl, HN⟩
          case measure => simpa only [strLen, txt_size] using hlen
        · have e1 : ((z[0].toNat : Int) == 32) = false := by rw [h9]; rfl
          have e2 : ((z[0].toNat : Int) == 9) = true := by rw [h9]; rfl
          clear h9
          go_wp2
          go_round
          case rel => exact ⟨txt r, rfl, HN⟩
          case measure => simpa only [strLen, txt_size] using hlen
      · have HV : Hid (txt (cutL s) = z) := by
          show _ = _
          rw [← HC.out, hz]
          unfold cutL
          rw [List.dropWhile_cons, if_neg hb, ← hz, txt_toList]
        have h9 : ¬ c.toNat = 32 ∧ ¬ c.toNat = 9 := by
          have : blankB c = false := by simpa using hb
          unfold blankB at this; simpa using this
        rw [← hc] at h9
        have e1 : ((z[0].toNat : Int) == 32) = false := by rw [beq_eq_false_iff_ne]; omega
        have e2 : ((z[0].toNat : Int) == 9) = false := by rw [beq_eq_false_iff_ne]; omega
        clear hz hb hc hr HC h9
        go_wp2
        go_ret
        exact ⟨by rw [HV.out]; rfl, rfl⟩
set_option maxRecDepth 100000 in
set_option maxHeartbeats 2000000 in
theorem rleast_any (c : BT) (w : World) : Calls Tryz.prog 52 #[.string (txt c)] w fun e w' => e = .returned (.tuple #[.int .i64 (leastT c), .int .i64 (mostT c)]) ∧ w = w' := by
  have q1 := name_eq c nIf
  have q2 := name_eq c nForeach
  have q3 := name_eq c nCallW
  have hM := many10_any (txt c)
  rw [txt_data] at hM
  have HM := Lib.hid hM
  unfold leastT mostT
  unfold nIf at q1
  unfold nForeach at q2
  unfold nCallW at q3
  obtain ⟨S, hS⟩ : ∃ S, S = txt c := ⟨_, rfl⟩
  rw [← hS] at q1 q2 q3 HM ⊢
  clear hM hS
  by_cases h1 : c = nIf
  · have HV : Hid ((if c = nIf then (2 : Int) else if c = nForeach then 3 else if c = nCallW then 1 else manyOf c) = 2 ∧ (if c = nIf then (3 : Int) else if c = nForeach then 3 else if c = nCallW then 9 else manyOf c) = 3) := ⟨if_pos h1, if_pos h1⟩
    rw [HV.out.1, HV.out.2]
    rw [decide_eq_true (show c = [105, 102] from h1)] at q1
    clear h1 HV q2 q3
    go_enter Tryz.func52, Tryz.ntmps52
    go_wp2
    go_ret2
    exact ⟨rfl, rfl⟩
  by_cases h2 : c = nForeach
  · have HV : Hid ((if c = nIf then (2 : Int) else if c = nForeach then 3 else if c = nCallW then 1 else manyOf c) = 3 ∧ (if c = nIf then (3 : Int) else if c = nForeach then 3 else if c = nCallW then 9 else manyOf c) = 3) := ⟨by rw [if_neg h1, if_pos h2], by rw [if_neg h1, if_pos h2]⟩
    rw [HV.out.1, HV.out.2]
    rw [decide_eq_false (show ¬ c = [105, 102] from h1)] at q1
    rw [decide_eq_true (show c = [102, 111, 114, 101, 97, 99, 104] from h2)] at q2
    clear h1 h2 HV q3
    go_enter Tryz.func52, Tryz.ntmps52
    go_wp2
    go_ret2
    exact ⟨rfl, rfl⟩
  by_cases h3 : c = nCallW
  · have HV : Hid ((if c = nIf then (2 : Int) else if c = nForeach then 3 else if c = nCallW then 1 else manyOf c) = 1 ∧ (if c = nIf then (3 : Int) else if c = nForeach then 3 else if c = nCallW then 9 else manyOf c) = 9) := ⟨by rw [if_neg h1, if_neg h2, if_pos h3], by rw [if_neg h1, if_neg h2, if_pos h3]⟩
    rw [HV.out.1, HV.out.2]
    rw [decide_eq_false (show ¬ c = [105, 102] from h1)] at q1
    rw [decide_eq_false (show ¬ c = [102, 111, 114, 101, 97, 99, 104] from h2)] at q2
    rw [decide_eq_true (show c = [99, 97, 108, 108] from h3)] at q3
    clear h1 h2 h3 HV
    go_enter Tryz.func52, Tryz.ntmps52
    go_wp2
    go_ret2
    exact ⟨rfl, rfl⟩
  · have HV : Hid ((if c = nIf then (2 : Int) else if c = nForeach then 3 else if c = nCallW then 1 else manyOf c) = manyOf c ∧ (if c = nIf then (3 : Int) else if c = nForeach then 3 else if c = nCallW then 9 else manyOf c) = manyOf c) := ⟨by rw [if_neg h1, if_neg h2, if_neg h3], by rw [if_neg h1, if_neg h2, if_neg h3]⟩
    rw [HV.out.1, HV.out.2]
    rw [decide_eq_false (show ¬ c = [105, 102] from h1)] at q1
    rw [decide_eq_false (show ¬ c = [102, 111, 114, 101, 97, 99, 104] from h2)] at q2
    rw [decide_eq_false (show ¬ c = [99, 97, 108, 108] from h3)] at q3
    clear h1 h2 h3 HV
    go_enter Tryz.func52, Tryz.ntmps52
    go_wp2_with fail
    refine (HM.out _).mono ?_
    rintro e _ ⟨rfl, rfl⟩
    go_wp2_with fail
    go_ret2
    exact ⟨rfl, rfl⟩
set_option maxRecDepth 100000 in
set_option maxHeartbeats 4000000 in
theorem rargs_any (s : BT) (M : Nat) (hs : s.length ≤ 1000000) (hM : M ≤ 100) (w : World) : Calls Tryz.prog 53 #[.string (txt s), .int .i64 ((M : Int) + 1)] w fun e w' =>
    ∃ o n c, e = .returned (.slice o n c) ∧ n = (argsT M s).length ∧ OwnT w' w.heap.size (.slice o n c) (argsT M s) ∧ Below w.heap.size w w' := by
  have HK : Hid (∀ (t : BT) W, t.length ≤ 1000000 → Calls Tryz.prog 56 #[.string (txt t), .slice (some ⟨W.heap.size, 0, none⟩) 1 1] (W.alloc (.cells #[.string ⟨#[44]⟩] 9)) fun e w' => e = .returned (.tuple #[.string (txt (cutOf [[44]] t).1), .string (txt (cutOf [[44]] t).2.1), .string (txt (cutOf [[44]] t).2.2)]) ∧ Below W.heap.size W w') := fun t W ht => rcut_one W t [44] ht (by decide)
  have hw1 : IntKind.i64.wrap ((M : Int) + 1 - 1) = (M : Int) := by rw [IntKind.wrap_i64]; omega
  have HQ : Hid (∀ (acc : List BT) (t : BT) (q : Option Addr) (z cz : Nat) (W : World), OwnT W w.heap.size (.slice q z cz) acc → acc.length ≤ 100 → Below w.heap.size w W → argsT M s = acc ++ [t] → ∃ o n c w', (Builtin.append_ #[99, 99] 99 #[.slice q z cz, .slice (some ⟨W.heap.size, 0, none⟩) 1 1]).run Tryz.prog (W.alloc (.cells #[.string (txt t)] 9)) = .ok (.slice o n c) w' ∧ (n = (argsT M s).length ∧ OwnT w' w.heap.size (.slice o n c) (argsT M s) ∧ Below w.heap.size w w')) := fun acc t q z cz W ho ha hb he => by
    obtain ⟨o, n, c, w', h1, h2, h3⟩ := run_append_told w.heap.size (.slice q z cz) acc t ho (by omega) hb.size 99
    rw [← he] at h2
    refine ⟨o, n, c, w', h1, ?_, h2, hb.trans h3⟩
    rcases h2.2 with ⟨hv, h0⟩ | ⟨g, cap, cur, hv, _⟩
    · cases hv; exact h0.symm
    · cases hv; rfl
  go_enter Tryz.func53, Tryz.ntmps53
  go_wp2_with fail
  go_loopw [0, 5] (fun sv vv wr => ∃ (i : Nat) (s' : BT) (acc : List BT) (q : Option Addr) (cz : Nat), i ≤ M ∧ sv = .string (txt s') ∧ s'.length ≤ 1000000 ∧ vv = .slice q i cz ∧ Hid (acc.length = i) ∧ Hid (OwnT wr w.heap.size (.slice q i cz) acc) ∧ Hid (Below w.heap.size w wr) ∧ Hid (argsT M s = acc ++ argsT (M - i) s')) (fun _ vv _ => M - (match vv with | .slice _ n _ => n | _ => 0))
  case atStart => exact ⟨0, s, [], none, 0, Nat.zero_le _, rfl, hs, rfl, rfl, OwnT.nil _ _, Below.refl _ _, rfl⟩
  case round =>
    obtain ⟨i, s', acc, q, cz, hi, rfl, hs', rfl, HAc, HO, HB, HE⟩ := hrel
    by_cases hlt : i < M
    · have d1 : (i : Int) < (M : Int) := by omega
      have HK1 := Lib.hid (HK.out s' wr hs')
      have hsh := cut_short [[44]] s'
      have HE0 : Hid ((cutOf [[44]] s').2.1 = [] → argsT M s = acc ++ [(cutOf [[44]] s').1]) := fun h0 => by
        rw [(cut_ahead h0 (by simp)).1, HE.out, show M - i = (M - i - 1) + 1 by omega]
        unfold argsT
        rw [if_pos h0]
      have HE1 : Hid (¬ (cutOf [[44]] s').2.1 = [] → argsT M s = acc ++ [(cutOf [[44]] s').1] ++ argsT (M - (i + 1)) (cutOf [[44]] s').2.2) := fun h0 => by
        rw [HE.out, show M - i = (M - (i + 1)) + 1 by omega]
        conv => lhs; unfold argsT
        rw [if_neg h0]
        simp
      generalize cutOf [[44]] s' = K at HK1 hsh HE0 HE1
      clear HE HK
      go_wp2_with fail
      refine HK1.out.mono ?_
      rintro e w2 ⟨rfl, hb2⟩
      have HB2 : Hid (Below w.heap.size w w2) := HB.out.trans (hb2.mono HB.out.size)
      have HO2 : Hid (OwnT w2 w.heap.size (.slice q i cz) acc) := owns_below HO.out hb2
      clear hb2 HK1 HB HO
      by_cases hk : K.2.1 = []
      · have e5 : (txt K.2.1).toList.isEmpty = true := by rw [hk, txt_toL]; rfl
        obtain ⟨o3, n3, c3, w3, hrun, HP3⟩ := HQ.out acc K.1 q i cz w2 HO2.out (by have := HAc.out; omega) HB2.out (HE0.out hk)
        have HP := Lib.hid HP3
        clear HP3 hk HE0 HE1
        go_wp2_with (at_builtin; refine wpList_append_eq rfl _ _ 99 rfl _ _ _ w3 rfl rfl hrun ?_)
        go_ret
        exact ⟨_, _, _, rfl, HP.out.1, HP.out.2.1, HP.out.2.2⟩
      · have e5 : (txt K.2.1).toList.isEmpty = false := by rw [txt_toL]; simpa using hk
        obtain ⟨o3, n3, c3, w3, hrun, hown3, hb3⟩ := run_append_told w.heap.size (.slice q i cz) acc K.1 HO2.out (by have := HAc.out; omega) HB2.out.size 99
        have hn3 : n3 = i + 1 := by
          have hl := HAc.out
          rcases hown3.2 with ⟨hv, h0⟩ | ⟨g, cap, cur, hv, _⟩
          · rw [List.length_append] at h0; simp at h0
          · cases hv; rw [List.length_append, hl]; rfl
        subst hn3
        have HO3 := Lib.hid hown3
        have HB3 : Hid (Below w.heap.size w w3) := HB2.out.trans hb3
        have HE2 := Lib.hid (HE1.out hk)
        clear hk hown3 hb3 HE0 HE1 HO2 HB2
        go_wp2_with (at_builtin; refine wpList_append_eq rfl _ _ 99 rfl _ _ _ w3 rfl rfl hrun ?_)
        go_roundw
        case rel => exact ⟨i + 1, K.2.2, acc ++ [K.1], o3, c3, hlt, rfl, by omega, rfl, (show Hid _ from by show _ = _; rw [List.length_append, HAc.out]; rfl), HO3, HB3, HE2⟩
        case measure => simp; omega
    · obtain rfl : i = M := by omega
      have d1 : ¬ (i : Int) < (i : Int) := by omega
      obtain ⟨o3, n3, c3, w3, hrun, HP3⟩ := HQ.out acc s' q i cz wr HO.out (by have := HAc.out; omega) HB.out (by rw [HE.out, Nat.sub_self]; unfold argsT; rfl)
      have HP := Lib.hid HP3
      clear HP3 HE HK
      go_wp2_with (at_builtin; refine wpList_append_eq rfl _ _ 99 rfl _ _ _ w3 rfl rfl hrun ?_)
      go_ret
      exact ⟨_, _, _, rfl, HP.out.1, HP.out.2.1, HP.out.2.2⟩
end Go.Proofs.YtbngoodjgijmgaaGreatDoor
