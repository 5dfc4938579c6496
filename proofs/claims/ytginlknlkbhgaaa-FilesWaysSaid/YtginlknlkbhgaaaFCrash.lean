/-
  What Crash leaves of a tree: what was synced, the first ones of the changes behind it, and a part of the next one. For any tree whose changes fit behind one another.
-/
import Derived.Test.YtginlknlkbhgaaaFTorn
namespace Go.Proofs.Ytginlknlkbhgaaa
open Go.RowKit Go.Shelf Go.Maps

/-- The changes fit, one behind the other. -/
def Goes : Fs → List Ch → Prop
  | l, [] => l.length ≤ 200
  | l, c :: r => l.length ≤ 200 ∧ Fits l c ∧ Goes (after l c) r
def crashN (S : St) (many : Int) : Nat := (min (max many 0) (S.pend.length : Int)).toNat
def crashL (S : St) (many part : Int) : Fs :=
  match S.pend[crashN S many]? with
  | none => (S.pend.take (crashN S many)).foldl after S.last
  | some c => if 1 ≤ part ∧ c.kind ≤ 1 then after ((S.pend.take (crashN S many)).foldl after S.last) (tornC c part) else (S.pend.take (crashN S many)).foldl after S.last
def opC (S : St) (many part : Int) : St := (S.clock, crashL S many part, crashL S many part, [])

/-- How it stands in Crash: the tree with the files l; its blocks are below B. -/
def CrAt (w0 : World) (X : Nat → Prop) (bt : Nat) (room : Int) (S : St) (b : Nat) (sm : Option Nat) (pv : Value) (YS YP : Nat → Prop) (LS : FVs) (l : Fs) (B : Nat) (W : World) : Prop :=
  ∃ X' YN LN, TreeP W X' bt room S.clock (some b) sm pv YN YS YP LN LS S.pend ∧ strip LN = l ∧ Turned X w0 W ∧ (∀ n, X' n → X n ∨ w0.heap.size ≤ n) ∧ (∀ n, X' n → n < B) ∧ B ≤ W.heap.size
section
variable {w0 W W' : World} {X : Nat → Prop} {bt : Nat} {room : Int} {S : St} {b : Nat} {sm : Option Nat} {pv : Value} {YS YP : Nat → Prop} {LS : FVs} {l : Fs} {B : Nat}
theorem CrAt.below (h : CrAt w0 X bt room S b sm pv YS YP LS l B W) (hb : Below W.heap.size W W') : CrAt w0 X bt room S b sm pv YS YP LS l B W' := by
  obtain ⟨X', YN, LN, h1, h2, h3, h4, h5, h6⟩ := h
  exact ⟨X', YN, LN, h1.kept (turned_below hb) (fun _ _ => id), h2, h3.trans ((turned_below hb).wider (fun _ h => h.elim)), h4, h5, Nat.le_trans h6 hb.size⟩
theorem CrAt.fresh (h : CrAt w0 X bt room S b sm pv YS YP LS l B W) : CrAt w0 X bt room S b sm pv YS YP LS l W.heap.size W := by
  obtain ⟨X', YN, LN, h1, h2, h3, h4, h5, h6⟩ := h
  exact ⟨X', YN, LN, h1, h2, h3, h4, h1.lt, Nat.le_refl _⟩
theorem CrAt.cell (h : CrAt w0 X bt room S b sm pv YS YP LS l B W) : W.cell? ⟨bt, 2, none⟩ = some (.map (some b)) := by
  obtain ⟨X', YN, LN, h1, _⟩ := h
  exact h1.cells.cell.2.2.1
theorem CrAt.apply (h : CrAt w0 X bt room S b sm pv YS YP LS l B W) (c : Ch) (hf : Fits l c) (hl : l.length ≤ 200) (xb : Nat) (cs : Array Value) (T : TypeId) (fz : Nat × Nat) (hx : W.heap[xb]? = some (.cells cs T fz)) (hB : B ≤ xb) :
    Calls Try.prog 38 #[.map (some b), .agg (chCells c).toArray] W fun r W' => r = .returned (.tuple #[]) ∧ CrAt w0 X bt room S b sm pv YS YP LS (after l c) W'.heap.size W' ∧ W'.heap[xb]? = some (.cells cs T fz) := by
  obtain ⟨X', YN, LN, h1, rfl, h3, h4, h5, h6⟩ := h
  refine (apply_any b YN LN c W h1.now (by rw [strip_length] at hl; omega) hf).mono ?_
  rintro r W' ⟨rfl, hA⟩
  have hTY : Turned YN W W' := by obtain ⟨_, _, _, _, q, _⟩ := hA; exact q
  obtain ⟨X2, YN2, LN2, k1, k2, k3, k4⟩ := hA.tree h1
  refine ⟨rfl, ⟨X2, YN2, LN2, k1, k2, h3.andThen k3 h4, fun n hn => ?_, k1.lt, Nat.le_refl _⟩, hTY.cells hx (fun hn => by have := h5 xb (h1.xn xb hn); omega)⟩
  rcases k4 n hn with h | h
  · exact h4 n h
  · have := h3.size; exact .inr (by omega)
theorem CrAt.applyN (h : CrAt w0 X bt room S b sm pv YS YP LS l B W) (c : Ch) (hf : Fits l c) (hl : l.length ≤ 200) :
    Calls Try.prog 38 #[.map (some b), .agg (chCells c).toArray] W fun r W' => r = .returned (.tuple #[]) ∧ CrAt w0 X bt room S b sm pv YS YP LS (after l c) W'.heap.size W' := by
  obtain ⟨X', YN, LN, h1, rfl, h3, h4, h5, h6⟩ := h
  refine (apply_any b YN LN c W h1.now (by rw [strip_length] at hl; omega) hf).mono ?_
  rintro r W' ⟨rfl, hA⟩
  obtain ⟨X2, YN2, LN2, k1, k2, k3, k4⟩ := hA.tree h1
  refine ⟨rfl, X2, YN2, LN2, k1, k2, h3.andThen k3 h4, fun n hn => ?_, k1.lt, Nat.le_refl _⟩
  rcases k4 n hn with h | h
  · exact h4 n h
  · have := h3.size; exact .inr (by omega)
theorem CrAt.step (h : CrAt w0 X bt room S b sm pv YS YP LS l B W) : StepS w0 X bt room (S.clock, l, strip LS, S.pend) W := by
  obtain ⟨X', YN, LN, h1, rfl, h3, h4, _⟩ := h
  exact ⟨X', ⟨_, _, _, _, _, _, _, _, h1, rfl, rfl⟩, h3, h4⟩
end

theorem fold_take {l : Fs} {cs : List Ch} {k : Nat} (hk : k < cs.length) : (cs.take (k + 1)).foldl after l = after ((cs.take k).foldl after l) cs[k] := by
  rw [List.take_succ_eq_append_getElem hk, List.foldl_append]; rfl
theorem goes_at : ∀ {cs : List Ch} {l : Fs}, Goes l cs → ∀ k (hk : k < cs.length), Fits ((cs.take k).foldl after l) cs[k]
  | [], _, _, k, hk => by simp at hk
  | _ :: _, _, h, 0, _ => h.2.1
  | _ :: _, _, h, k + 1, hk => goes_at h.2.2 k (by simpa using hk)
theorem goes_len : ∀ {cs : List Ch} {l : Fs}, Goes l cs → ∀ k, ((cs.take k).foldl after l).length ≤ 200
  | [], l, h, k => by
    have h' : l.length ≤ 200 := h
    simpa using h'
  | _ :: _, _, h, 0 => h.1
  | _ :: _, _, h, k + 1 => goes_len h.2.2 k
theorem torn_fits {l : Fs} {c : Ch} (h : Fits l c) (hk : c.kind ≤ 1) (part : Int) : Fits l (tornC c part) := by
  obtain ⟨h1, h2, h3, h4, h5⟩ := h
  have hle := List.length_take_le part.toNat c.arg
  have hle2 : (c.arg.take part.toNat).length ≤ c.arg.length := by rw [List.length_take]; omega
  refine ⟨h1, h2, Nat.le_trans hle2 h3, fun hk1 => ?_, fun h3k => ?_⟩
  · have := h4 hk1
    show (textOf l c.path).length + (c.arg.take part.toNat).length ≤ _
    omega
  · have : c.kind = 3 := h3k
    omega

theorem crash_none {S : St} {many part : Int} {m : Nat} (hN : crashN S many = m) (h : S.pend[m]? = none ∨ (∃ c, S.pend[m]? = some c ∧ ¬ (1 ≤ part ∧ c.kind ≤ 1))) : crashL S many part = (S.pend.take m).foldl after S.last := by
  unfold crashL
  rw [hN]
  rcases h with h | ⟨c, h, hn⟩
  · rw [h]
  · rw [h]; simp only [if_neg hn]
theorem crash_torn {S : St} {many part : Int} {m : Nat} {c : Ch} (hN : crashN S many = m) (h : S.pend[m]? = some c) (h1 : 1 ≤ part) (h2 : c.kind ≤ 1) : crashL S many part = after ((S.pend.take m).foldl after S.last) (tornC c part) := by
  unfold crashL
  rw [hN, h]
  simp only [if_pos (And.intro h1 h2)]
theorem torn_cells {c : Ch} {part : Int} {kd : Nat} {p q s : ByteArray} {t : Int} (hch : chCells c = [.int .i64 kd, .string p, .string q, .string s, .int .i64 t]) (hk : c.kind ≤ 1) : chCells (tornC c part) = [.int .i64 kd, .string p, .string q, .string (txt (s.data.toList.take part.toNat)), .int .i64 t] := by
  obtain ⟨k, pp, a, tt⟩ := c
  have hk' : k ≤ 1 := hk
  have a3 : toOf (k, pp, a, tt) = [] := if_neg (show ¬ k = 3 by omega)
  have a4 : txtOf (k, pp, a, tt) = a := if_pos hk'
  have e3 : toOf (tornC (k, pp, a, tt) part) = [] := if_neg (show ¬ k = 3 by omega)
  have e4 : txtOf (tornC (k, pp, a, tt) part) = a.take part.toNat := if_pos hk'
  unfold chCells at hch ⊢
  rw [a3, a4] at hch
  rw [e3, e4]
  simp only [Ch.kind, Ch.path, Ch.time, List.cons.injEq, Value.int.injEq, Value.string.injEq, true_and, and_true] at hch
  obtain ⟨h1, h2, h3, h4, h5⟩ := hch
  show [Value.int .i64 (k : Nat), .string (txt pp), .string (txt []), .string (txt (a.take part.toNat)), .int .i64 tt] = _
  rw [h1, h2, h3, h5, ← h4, txt_data]
theorem after0 (l : Fs) (p a : BS) (t : Int) : after l (0, p, a, t) = put (p, a, t) l := rfl
theorem after1 (l : Fs) (p a : BS) (t : Int) : after l (1, p, a, t) = put (p, textOf l p ++ a, t) l := rfl
theorem after2 (l : Fs) (p a : BS) (t : Int) : after l (2, p, a, t) = drp p l := rfl
theorem put_len2 (l : Fs) (p : BS) (u v : FD) : (put (p, u) l).length = (put (p, v) l).length := by unfold put; rw [ins_length, ins_length]
theorem torn_len {l : Fs} {c : Ch} (hk : c.kind ≤ 1) (part : Int) : (after l (tornC c part)).length = (after l c).length := by
  obtain ⟨k, pp, a, tt⟩ := c
  have hk' : k ≤ 1 := hk
  rcases (show k = 0 ∨ k = 1 by omega) with rfl | rfl
  · show (after l (0, pp, a.take part.toNat, tt)).length = _
    rw [after0, after0]; exact put_len2 _ _ _ _
  · show (after l (1, pp, a.take part.toNat, tt)).length = _
    rw [after1, after1]; exact put_len2 _ _ _ _
/-- What is synced at last. -/
theorem CrAt.sync {w0 W : World} {X : Nat → Prop} {bt : Nat} {room : Int} {S : St} {b : Nat} {sm : Option Nat} {pv : Value} {YS YP : Nat → Prop} {LS : FVs} {l : Fs} {B : Nat} (h : CrAt w0 X bt room S b sm pv YS YP LS l B W) (hl : l.length ≤ 200) :
    Calls Try.prog 22 #[.pointer (some ⟨bt, 0, none⟩)] W fun r W' => r = .returned (.tuple #[]) ∧ StepS w0 X bt room (S.clock, l, l, []) W' := by
  obtain ⟨X', h1, h2, h3⟩ := h.step
  refine (sync_tree bt X' room (S.clock, l, strip LS, S.pend) W h1 hl).mono ?_
  rintro r W' ⟨rfl, X2, k1, k2, k3⟩
  refine ⟨rfl, X2, k1, h2.andThen k2 h3, fun n hn => ?_⟩
  rcases k3 n hn with h | h
  · exact h3 n h
  · have := h2.size; exact .inr (by omega)

/-- What was synced, copied, and taken for what is there. -/
theorem crash_start {w w1 : World} {X : Nat → Prop} {bt : Nat} {room : Int} {S : St} {nm sm : Option Nat} {pv : Value} {YN YS YP : Nat → Prop} {LN LS : FVs} (hp : TreeP w X bt room S.clock nm sm pv YN YS YP LN LS S.pend) (hM : IsM w1 w.heap.size (bare LS)) (hb : Below w.heap.size w w1) :
    CrAt w X bt room S w.heap.size sm pv YS YP LS (strip LS) (w1.setCell ⟨bt, 2, none⟩ (.map (some w.heap.size))).heap.size (w1.setCell ⟨bt, 2, none⟩ (.map (some w.heap.size))) := by
  have hXl := hp.lt
  have hlt := hp.cells.lt
  have hml := hM.lt
  have hc1 := hp.cells.below hb hlt
  obtain ⟨W, hW⟩ : ∃ W, W = w1.setCell ⟨bt, 2, none⟩ (.map (some w.heap.size)) := ⟨_, rfl⟩
  have hT : Turned (fun n => n = bt) w1 W := by rw [hW]; exact Turned.setCell (X := fun n => n = bt) w1 ⟨bt, 2, none⟩ _ rfl
  have hs : W.heap.size = w1.heap.size := by rw [hW]; simp
  have hcW : TreeC W bt room S.clock (some w.heap.size) sm pv := by
    rw [hW]
    unfold TreeC at hc1
    simp [TreeC, World.setCell, Array.getElem?_modify, hc1]
  have hb' := turned_below hb
  rw [← hW]
  refine ⟨fun n => X n ∨ n = w.heap.size, fun n => n = w.heap.size, bare LS, ⟨hcW, (NowR.bare hM).kept hT (fun n (hn : n = w.heap.size) (hx : n = bt) => by omega), (hp.last.kept hb' (fun _ _ => id)).kept hT (fun n hn (hx : n = bt) => hp.ts (hx ▸ hn)), (hp.row.kept hb' (fun _ _ => id)).kept hT (fun n hn (hx : n = bt) => hp.tp (hx ▸ hn)),
    .inl hp.xt, fun n hn => .inr hn, fun n hn => .inl (hp.xs n hn), fun n hn => .inl (hp.xp n hn), fun hn => by omega, hp.ts, hp.tp, fun n (hn : n = w.heap.size) hx => by have := hXl n (hp.xs n hx); omega, fun n (hn : n = w.heap.size) hx => by have := hXl n (hp.xp n hx); omega, hp.sp, fun n hn => ?_⟩, strip_bare LS,
    (hb'.wider (fun _ h => h.elim)).andThen hT (fun n hn => .inl (by rw [hn]; exact hp.xt)), fun n hn => hn.elim .inl (fun h => .inr (by omega)), fun n hn => ?_, Nat.le_refl _⟩
  · rcases hn with h | h
    · have := hXl n h; have := hb.size; omega
    · omega
  · rcases hn with h | h
    · have := hXl n h; have := hb.size; omega
    · omega

set_option maxRecDepth 100000 in
set_option maxHeartbeats 4000000 in
theorem crash_some (bt : Nat) (X : Nat → Prop) (g c n : Nat) (many part : Int) (room : Int) (S : St) (nm sm : Option Nat) (YN YS YP : Nat → Prop) (LN LS : FVs) (w : World) (hp : TreeP w X bt room S.clock nm sm (.slice (some ⟨g, 0, none⟩) n c) YN YS YP LN LS S.pend) (hnl : n = S.pend.length) (hlS : LS.length ≤ 200) (hg : Goes (strip LS) S.pend)
    (hnc : n ≤ c) (hcm : c ≤ maxLen) (m : Nat) (hmc : m < c) (hmin : min (max many 0) (n : Int) = (m : Int)) (hp2 : part < 9223372036854775808) :
    Calls Try.prog 16 #[.pointer (some ⟨bt, 0, none⟩), .int .i64 many, .int .i64 part] w fun r w' => r = .returned (.tuple #[]) ∧ StepS w X bt room (opC (S.clock, S.now, strip LS, S.pend) many part) w' := by
  have hmn : m ≤ n := by omega
  have hi1 : (0 : Int) ≤ (m : Int) := by omega
  have hi2 : (m : Int) ≤ (n : Int) := by omega
  have hi3 : (n : Int) ≤ (c : Int) := by omega
  have hi4 : (m : Int) ≤ (c : Int) := by omega
  have hne1 : m ≠ c := by omega
  have hne2 : c ≠ m := by omega
  have hne3 : (m : Int) ≠ (c : Int) := by omega
  have hne4 : (c : Int) ≠ (m : Int) := by omega
  unfold maxLen at hcm
  obtain ⟨c0, c1, c2, c3, c4⟩ := hp.cells.cell
  have c4d : w.drew.cell? ⟨bt, 4, none⟩ = some (.slice (some ⟨g, 0, none⟩) n c) := c4
  have mixed := lays169.mixed
  have hlt := hp.cells.lt
  have HC : Hid (Calls Try.prog 34 #[.map sm] w.drew fun e w' => e = .returned (.map (some w.heap.size)) ∧ TreeC w' bt room S.clock nm sm (.slice (some ⟨g, 0, none⟩) n c) ∧ CrAt w X bt room S w.heap.size sm (.slice (some ⟨g, 0, none⟩) n c) YS YP LS (strip LS) (w'.setCell ⟨bt, 2, none⟩ (.map (some w.heap.size))).heap.size (w'.setCell ⟨bt, 2, none⟩ (.map (some w.heap.size)))) := by
    have hbd : Below w.heap.size w w.drew := below_drew (Below.refl _ w)
    refine (clone_any sm LS w.drew (hp.last.map.below hbd (Nat.le_refl _)) (by omega)).mono (fun e w' hr => ⟨hr.1, hp.cells.below (hbd.trans hr.2.2) hlt, crash_start hp hr.2.1 (hbd.trans hr.2.2)⟩)
  have HG : Hid (Goes (strip LS) S.pend) := hg
  have HF : Hid (∀ l B W, CrAt w X bt room S w.heap.size sm (.slice (some ⟨g, 0, none⟩) n c) YS YP LS l B W → l.length ≤ 200 → Calls Try.prog 22 #[.pointer (some ⟨bt, 0, none⟩)] W fun r W' => r = .returned (.tuple #[]) ∧ StepS w X bt room (S.clock, l, l, []) W') := fun l B W h hl => h.sync hl
  have HA : Hid (∀ l B W ch xb cs T fz, CrAt w X bt room S w.heap.size sm (.slice (some ⟨g, 0, none⟩) n c) YS YP LS l B W → Fits l ch → l.length ≤ 200 → W.heap[xb]? = some (.cells cs T fz) → B ≤ xb → Calls Try.prog 38 #[.map (some w.heap.size), .agg (chCells ch).toArray] W fun r W' => r = .returned (.tuple #[]) ∧ CrAt w X bt room S w.heap.size sm (.slice (some ⟨g, 0, none⟩) n c) YS YP LS (after l ch) W'.heap.size W' ∧ W'.heap[xb]? = some (.cells cs T fz)) :=
    fun l B W ch xb cs T fz h hf hl hx hB => h.apply ch hf hl xb cs T fz hx hB
  have HA2 : Hid (∀ l B W ch, CrAt w X bt room S w.heap.size sm (.slice (some ⟨g, 0, none⟩) n c) YS YP LS l B W → Fits l ch → l.length ≤ 200 → Calls Try.prog 38 #[.map (some w.heap.size), .agg (chCells ch).toArray] W fun r W' => r = .returned (.tuple #[]) ∧ CrAt w X bt room S w.heap.size sm (.slice (some ⟨g, 0, none⟩) n c) YS YP LS (after l ch) W'.heap.size W') := fun l B W ch h hf hl => h.applyN ch hf hl
  have hN : crashN (S.clock, S.now, strip LS, S.pend) many = m := by
    unfold crashN
    show (min (max many 0) (S.pend.length : Int)).toNat = m
    rw [← hnl, hmin]; rfl
  have HN := Lib.hid hN
  clear hN
  have hrow : ∀ l B W, CrAt w X bt room S w.heap.size sm (.slice (some ⟨g, 0, none⟩) n c) YS YP LS l B W → ∀ i (hi : i < S.pend.length) j, j < 5 → W.cell? ⟨g, i * 5 + j, none⟩ = (chCells S.pend[i])[j]? := by
    intro l B W h i hi j hj
    obtain ⟨X', YN', LN', h1, _⟩ := h
    obtain ⟨o, c', hv, _, _, _, hcs⟩ := h1.row.shape (fun _ => rfl)
    obtain ⟨g', hg', hc⟩ := hcs i S.pend[i] (List.getElem?_eq_getElem hi)
    rw [← hnl] at hv
    cases hv
    cases hg'
    exact hc j hj
  have HR := Lib.hid hrow
  have HNL := Lib.hid hnl
  clear hp hg hrow hnl
  go_enter Try.func16, Try.ntmps16
  go_wp2
  go_region_held3 (fun w' => w'.cell? ⟨bt, 4, none⟩ = some (.slice (some ⟨g, 0, none⟩) n c)) (first | assumption) (first | fail)
  go_wp2_with (go_at_call 34; refine (HC.out).mono ?_; rintro e w1 ⟨rfl, hC1, hS1⟩; have d2 := hC1.cell.2.2.1; have f2 := hC1.frozen 2; have HS1 := Lib.hid hS1; clear hS1)
  have hz0 := HS1.out
  clear HC c0 c1 c2 c3 c4 c4d hC1 d2 f2 HS1
  generalize w1.setCell ⟨bt, 2, none⟩ (.map (some w.heap.size)) = W2 at hz0 ⊢
  go_loopw [40] (fun i wr => ∃ k : Nat, k ≤ m ∧ i = .int .i64 k ∧ CrAt w X bt room S w.heap.size sm (.slice (some ⟨g, 0, none⟩) n c) YS YP LS ((S.pend.take k).foldl after (strip LS)) wr.heap.size wr) (fun i _ => m - (intOf i).toNat)
  case atStart => exact ⟨0, Nat.zero_le _, rfl, hz0⟩
  case round =>
    obtain ⟨k, hk, rfl, hcr⟩ := hrel
    by_cases hlt2 : k < m
    · have hkl : k < S.pend.length := by have := HNL.out; omega
      obtain ⟨kd, p, q, s, t, hch⟩ : ∃ (kd : Nat) (p q s : ByteArray) (t : Int), chCells S.pend[k] = [.int .i64 kd, .string p, .string q, .string s, .int .i64 t] := ⟨_, _, _, _, _, rfl⟩
      have hcs : ∀ j, j < 5 → wr.cell? ⟨g, k * 5 + j, none⟩ = ([.int .i64 kd, .string p, .string q, .string s, .int .i64 t] : List Value)[j]? := fun j hj => by rw [HR.out _ _ wr hcr k hkl j hj, hch]
      have e0 : wr.cell? ⟨g, k * 5, none⟩ = some (.int .i64 kd) := hcs 0 (by omega)
      have e1 : wr.cell? ⟨g, k * 5 + 1, none⟩ = some (.string p) := hcs 1 (by omega)
      have e2 : wr.cell? ⟨g, k * 5 + 2, none⟩ = some (.string q) := hcs 2 (by omega)
      have e3 : wr.cell? ⟨g, k * 5 + 3, none⟩ = some (.string s) := hcs 3 (by omega)
      have e4 : wr.cell? ⟨g, k * 5 + 4, none⟩ = some (.int .i64 t) := hcs 4 (by omega)
      have x1 : (wr.alloc (.cells #[.int .i64 kd, .string p, .string q, .string s, .int .i64 t] 72)).drew.heap[wr.heap.size]? = some (.cells #[.int .i64 kd, .string p, .string q, .string s, .int .i64 t] 72 (0, 0)) := World.alloc_heap_new wr _
      have hcr1 := hcr.below (below_drew ((Below.refl wr.heap.size wr).alloc (Nat.le_refl _) (.cells #[.int .i64 kd, .string p, .string q, .string s, .int .i64 t] 72)))
      have hAk := HA.out _ _ _ S.pend[k] wr.heap.size _ _ _ hcr1 (goes_at HG.out k hkl) (goes_len HG.out k) x1 (Nat.le_refl _)
      rw [hch, ← fold_take hkl] at hAk
      have HAk := Lib.hid hAk
      have b2 := hcr1.cell
      have g0 : (wr.alloc (.cells #[.int .i64 kd, .string p, .string q, .string s, .int .i64 t] 72)).drew.cell? ⟨wr.heap.size, 0, none⟩ = some (.int .i64 kd) := by rw [Lib.cell_of_heap x1]; rfl
      have g1 : (wr.alloc (.cells #[.int .i64 kd, .string p, .string q, .string s, .int .i64 t] 72)).drew.cell? ⟨wr.heap.size, 1, none⟩ = some (.string p) := by rw [Lib.cell_of_heap x1]; rfl
      have g2 : (wr.alloc (.cells #[.int .i64 kd, .string p, .string q, .string s, .int .i64 t] 72)).drew.cell? ⟨wr.heap.size, 2, none⟩ = some (.string q) := by rw [Lib.cell_of_heap x1]; rfl
      have g3 : (wr.alloc (.cells #[.int .i64 kd, .string p, .string q, .string s, .int .i64 t] 72)).drew.cell? ⟨wr.heap.size, 3, none⟩ = some (.string s) := by rw [Lib.cell_of_heap x1]; rfl
      have g4 : (wr.alloc (.cells #[.int .i64 kd, .string p, .string q, .string s, .int .i64 t] 72)).drew.cell? ⟨wr.heap.size, 4, none⟩ = some (.int .i64 t) := by rw [Lib.cell_of_heap x1]; rfl
      have hi5 : (k : Int) < (m : Int) := by omega
      have hi6 : (0 : Int) ≤ (k : Int) := by omega
      clear hAk hcs hch hcr hcr1 HA HF HR
      go_wp2
      go_region_held3 (fun w' => w'.cell? ⟨bt, 2, none⟩ = some (.map (some w.heap.size)) ∧ w'.cell? ⟨wr.heap.size, 0, none⟩ = some (.int .i64 kd) ∧ w'.cell? ⟨wr.heap.size, 1, none⟩ = some (.string p) ∧ w'.cell? ⟨wr.heap.size, 2, none⟩ = some (.string q) ∧ w'.cell? ⟨wr.heap.size, 3, none⟩ = some (.string s) ∧ w'.cell? ⟨wr.heap.size, 4, none⟩ = some (.int .i64 t))
        (first | exact ⟨by assumption, by assumption, by assumption, by assumption, by assumption, by assumption⟩)
        (first | (go_at_call 38; refine (HAk.out).mono ?_; rintro r w3 ⟨rfl, hcr3, hx3⟩; have b3 := hcr3.cell; have j0 : w3.cell? ⟨wr.heap.size, 0, none⟩ = some (.int .i64 kd) := (by rw [Lib.cell_of_heap hx3]; rfl); have j1 : w3.cell? ⟨wr.heap.size, 1, none⟩ = some (.string p) := (by rw [Lib.cell_of_heap hx3]; rfl); have j2 : w3.cell? ⟨wr.heap.size, 2, none⟩ = some (.string q) := (by rw [Lib.cell_of_heap hx3]; rfl); have j3 : w3.cell? ⟨wr.heap.size, 3, none⟩ = some (.string s) := (by rw [Lib.cell_of_heap hx3]; rfl); have j4 : w3.cell? ⟨wr.heap.size, 4, none⟩ = some (.int .i64 t) := (by rw [Lib.cell_of_heap hx3]; rfl)))
      go_wp2_with fail
      go_roundw
      case rel => exact ⟨k + 1, hlt2, by go_num, hcr3⟩
      case measure => simp [intOf]; omega
    · have hkm : k = m := by omega
      rw [hkm] at hcr
      have hll := goes_len HG.out m
      by_cases hmn2 : m < n
      · have hml : m < S.pend.length := by have := HNL.out; omega
        obtain ⟨kd, p, q, s, t, hch⟩ : ∃ (kd : Nat) (p q s : ByteArray) (t : Int), chCells S.pend[m] = [.int .i64 kd, .string p, .string q, .string s, .int .i64 t] := ⟨_, _, _, _, _, rfl⟩
        have hget : S.pend[m]? = some S.pend[m] := List.getElem?_eq_getElem hml
        have hfit := goes_at HG.out m hml
        have hkd : S.pend[m].kind = kd := by
          have := congrArg (fun l => l[0]?) hch
          simp only [chCells, List.getElem?_cons_zero, Option.some.injEq, Value.int.injEq, true_and] at this
          omega
        have HS : Hid (∀ l B W, CrAt w X bt room S w.heap.size sm (.slice (some ⟨g, 0, none⟩) n c) YS YP LS l B W → W.cell? ⟨bt, 2, none⟩ = some (.map (some w.heap.size)) ∧ W.cell? ⟨g, m * 5, none⟩ = some (.int .i64 kd) ∧ W.cell? ⟨g, m * 5 + 1, none⟩ = some (.string p) ∧ W.cell? ⟨g, m * 5 + 2, none⟩ = some (.string q) ∧ W.cell? ⟨g, m * 5 + 3, none⟩ = some (.string s) ∧ W.cell? ⟨g, m * 5 + 4, none⟩ = some (.int .i64 t)) := by
          intro l B W h
          have hcs : ∀ j, j < 5 → W.cell? ⟨g, m * 5 + j, none⟩ = ([.int .i64 kd, .string p, .string q, .string s, .int .i64 t] : List Value)[j]? := fun j hj => by rw [HR.out _ _ W h m hml j hj, hch]
          exact ⟨h.cell, hcs 0 (by omega), hcs 1 (by omega), hcs 2 (by omega), hcs 3 (by omega), hcs 4 (by omega)⟩
        have HM : Hid (∀ W l, CrAt w X bt room S w.heap.size sm (.slice (some ⟨g, 0, none⟩) n c) YS YP LS l W.heap.size W → Calls Try.prog 39 #[.agg #[.int .i64 kd, .string p, .string q, .string s, .int .i64 t]] W fun e w' => e = .returned (.bool (decide (kd ≤ 1))) ∧ CrAt w X bt room S w.heap.size sm (.slice (some ⟨g, 0, none⟩) n c) YS YP LS l w'.heap.size w') := by
          intro W l h
          exact (mayTear_any kd p q s t (by rw [← hkd]; exact hfit.1) W).mono (fun e w' hr => ⟨hr.1, (h.below hr.2).fresh⟩)
        obtain ⟨_, e0, e1, e2, e3, e4⟩ := HS.out _ _ wr hcr
        have hlen0 : (0 : Int) < ((n - m : Nat) : Int) := by omega
        have hlen1 : n - m ≠ 0 := by omega
        have hlen2 : (0 : Int) < (n : Int) - (m : Int) := by omega
        have hlen3 : 0 < n - m := by omega
        have hlen4 : m < n := hmn2
        by_cases hpart : 1 ≤ part
        · by_cases hk1 : kd ≤ 1
          · have hHM := HM.out wr _ hcr
            rw [decide_eq_true hk1] at hHM
            have HM2 := Lib.hid hHM
            have hfin := crash_torn (part := part) HN.out hget hpart (by rw [hkd]; exact hk1)
            have hsz : s.size < 4611686018427387904 := by
              have h3 : txt (txtOf S.pend[m]) = s := by
                have := congrArg (fun l => l[3]?) hch
                simpa [chCells] using this
              rw [← h3, txt_size]
              have h4 := hfit.2.2.1
              unfold txtOf
              rw [if_pos (by rw [hkd]; exact hk1)]
              omega
            have HT : Hid (∀ W l, CrAt w X bt room S w.heap.size sm (.slice (some ⟨g, 0, none⟩) n c) YS YP LS l W.heap.size W → Calls Try.prog 40 #[.agg #[.int .i64 kd, .string p, .string q, .string s, .int .i64 t], .int .i64 part] W fun e w' => e = .returned (.agg #[.int .i64 kd, .string p, .string q, .string (txt (s.data.toList.take part.toNat)), .int .i64 t]) ∧ CrAt w X bt room S w.heap.size sm (.slice (some ⟨g, 0, none⟩) n c) YS YP LS l w'.heap.size w') := by
              intro W l h
              exact (torn_any kd p q s t part hpart hp2 hsz W).mono (fun e w' hr => ⟨hr.1, (h.below hr.2).fresh⟩)
            have hA3 : ∀ W B, CrAt w X bt room S w.heap.size sm (.slice (some ⟨g, 0, none⟩) n c) YS YP LS ((S.pend.take m).foldl after (strip LS)) B W → Calls Try.prog 38 #[.map (some w.heap.size), .agg #[.int .i64 kd, .string p, .string q, .string (txt (s.data.toList.take part.toNat)), .int .i64 t]] W fun r W' => r = .returned (.tuple #[]) ∧ CrAt w X bt room S w.heap.size sm (.slice (some ⟨g, 0, none⟩) n c) YS YP LS (crashL (S.clock, S.now, strip LS, S.pend) many part) W'.heap.size W' := by
              intro W B h
              have := HA2.out _ _ W (tornC S.pend[m] part) h (torn_fits hfit (by rw [hkd]; exact hk1) part) hll
              rw [torn_cells hch (by rw [hkd]; exact hk1)] at this
              rw [hfin]
              exact this
            have HA3 := Lib.hid hA3
            have hll2 : (crashL (S.clock, S.now, strip LS, S.pend) many part).length ≤ 200 := by
              rw [hfin, torn_len (by rw [hkd]; exact hk1)]
              have := goes_len HG.out (m + 1)
              rwa [fold_take hml] at this
            obtain ⟨lo, hlo⟩ : ∃ lo, lo = (S.pend.take m).foldl after (strip LS) := ⟨_, rfl⟩
            rw [← hlo] at hcr HA3 HM2
            clear hfit hget hch hkd HA HA2 HM HR HG HN hHM hA3 hfin hll
            go_wp2_with (go_at_call 39; refine (HM2.out).mono ?_; rintro e w4 ⟨rfl, hcr4⟩; have hcr4d : CrAt w X bt room S w.heap.size sm (.slice (some ⟨g, 0, none⟩) n c) YS YP LS lo w4.drew.heap.size w4.drew := (hcr4.below (below_drew (Below.refl _ _))).fresh; have hsd := HS.out _ _ _ hcr4d)
            go_region_held3 (fun w' => w'.cell? ⟨bt, 2, none⟩ = some (.map (some w.heap.size)) ∧ w'.cell? ⟨g, m * 5, none⟩ = some (.int .i64 kd) ∧ w'.cell? ⟨g, m * 5 + 1, none⟩ = some (.string p) ∧ w'.cell? ⟨g, m * 5 + 2, none⟩ = some (.string q) ∧ w'.cell? ⟨g, m * 5 + 3, none⟩ = some (.string s) ∧ w'.cell? ⟨g, m * 5 + 4, none⟩ = some (.int .i64 t))
              (first | exact HS.out _ _ _ (by assumption))
              (first
                | (go_at_call 40; refine (HT.out _ _ (by assumption)).mono ?_; rintro r w5 ⟨rfl, hcr5⟩)
                | (go_at_call 38; refine (HA3.out _ _ (by assumption)).mono ?_; rintro r w6 ⟨rfl, hcr6⟩))
            go_wp2_with (go_at_call 22; refine (HF.out _ _ _ (by assumption) (by assumption)).mono ?_; rintro e w9 ⟨rfl, hst⟩)
            go_end0
            exact ⟨rfl, hst⟩
          · have hHM := HM.out wr _ hcr
            rw [decide_eq_false hk1] at hHM
            have HM2 := Lib.hid hHM
            have HL2 := Lib.hid (crash_none (part := part) HN.out (.inr ⟨_, hget, fun h => hk1 (by rw [← hkd]; exact h.2)⟩))
            obtain ⟨lo, hlo⟩ : ∃ lo, lo = (S.pend.take m).foldl after (strip LS) := ⟨_, rfl⟩
            have HL3 : Hid (crashL (S.clock, S.now, strip LS, S.pend) many part = lo) := by show _ = _; rw [HL2.out, hlo]
            rw [← hlo] at hcr hll HM2
            clear hfit hget hch hkd HA HA2 HM HR HG HN hHM HL2 hlo HS
            go_wp2_with (first
              | (go_at_call 39; refine (HM2.out).mono ?_; rintro e w4 ⟨rfl, hcr4⟩)
              | (go_at_call 22; refine (HF.out _ _ _ (by assumption) (by assumption)).mono ?_; rintro e w9 ⟨rfl, hst⟩))
            go_end0
            exact ⟨rfl, by unfold opC; rw [HL3.out]; exact hst⟩
        · have HL2 := Lib.hid (crash_none (part := part) HN.out (.inr ⟨_, hget, fun h => hpart h.1⟩))
          obtain ⟨lo, hlo⟩ : ∃ lo, lo = (S.pend.take m).foldl after (strip LS) := ⟨_, rfl⟩
          have HL3 : Hid (crashL (S.clock, S.now, strip LS, S.pend) many part = lo) := by show _ = _; rw [HL2.out, hlo]
          rw [← hlo] at hcr hll
          clear hfit hget hch hkd HA HA2 HM HR HG HN HL2 hlo HS
          go_wp2_with (go_at_call 22; refine (HF.out _ _ _ (by assumption) (by assumption)).mono ?_; rintro e w9 ⟨rfl, hst⟩)
          go_end0
          exact ⟨rfl, by unfold opC; rw [HL3.out]; exact hst⟩
      · have hget : S.pend[m]? = none := List.getElem?_eq_none (by have := HNL.out; omega)
        have HL2 := Lib.hid (crash_none (part := part) HN.out (.inl hget))
        obtain ⟨lo, hlo⟩ : ∃ lo, lo = (S.pend.take m).foldl after (strip LS) := ⟨_, rfl⟩
        have HL3 : Hid (crashL (S.clock, S.now, strip LS, S.pend) many part = lo) := by show _ = _; rw [HL2.out, hlo]
        rw [← hlo] at hcr hll
        have hlen1 : n - m = 0 := by omega
        have hlen4 : ¬ m < n := hmn2
        clear hget HA HA2 HR HG HN HL2 hlo
        go_wp2_with (go_at_call 22; refine (HF.out _ _ _ (by assumption) (by assumption)).mono ?_; rintro e w9 ⟨rfl, hst⟩)
        go_end0
        exact ⟨rfl, by unfold opC; rw [HL3.out]; exact hst⟩

end Go.Proofs.Ytginlknlkbhgaaa
