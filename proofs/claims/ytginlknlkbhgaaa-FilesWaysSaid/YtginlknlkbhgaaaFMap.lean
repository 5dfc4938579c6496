/-
  A map from paths to files, as the program keeps it: what it holds, as a row by the paths; look-up, store, delete, len, range, at the operations. No condition.
-/
import Derived.Maps.RangeWalk
import Derived.Maps.Ext
import Derived.Test.YtginlknlkbhgaaaFMath
import Derived.Test.YtginlknlkbhgaaaProg
namespace Go.Proofs.Ytginlknlkbhgaaa
open Go.RowKit Go.Shelf Go.Maps

/-- a file as the program keeps it: its bytes, its time, the block of its end that grows -/
abbrev FV := BS × (Int × Option Nat)
def endA (o : Option Nat) : Option Addr := o.map fun b => ⟨b, 0, none⟩
def fileV (f : FV) : Value := .agg #[.string (txt f.1), .int .i64 f.2.1, .pointer (endA f.2.2)]
theorem endA_inj {a b : Option Nat} (h : endA a = endA b) : a = b := by
  cases a <;> cases b <;> simp_all [endA]
theorem fileV_inj {a b : FV} (h : fileV a = fileV b) : a = b := by
  obtain ⟨a1, a2, a3⟩ := a
  obtain ⟨b1, b2, b3⟩ := b
  simp only [fileV, Value.agg.injEq, Array.mk.injEq, List.cons.injEq, Value.string.injEq, Value.int.injEq, Value.pointer.injEq, true_and, and_true] at h
  obtain ⟨h1, h2, h3⟩ := h
  rw [txt_inj h1, h2, endA_inj h3]
open Classical in
noncomputable def fileR (v : Value) : Option (DataW FV × List MemPlace) := if h : ∃ f, v = fileV f then some (.held h.choose, []) else none
theorem fileR_mk (f : FV) : fileR (fileV f) = some (.held f, []) := by
  unfold fileR
  rw [dif_pos ⟨f, rfl⟩]
  have := Exists.choose_spec (⟨f, rfl⟩ : ∃ g, fileV f = fileV g)
  rw [← fileV_inj this]
theorem fileR_inv {v : Value} {y : DataW FV × List MemPlace} (h : fileR v = some y) : ∃ f, v = fileV f ∧ y = (.held f, []) := by
  by_cases hv : ∃ f, v = fileV f
  · obtain ⟨f, rfl⟩ := hv
    rw [fileR_mk] at h
    exact ⟨f, rfl, by cases h; rfl⟩
  · unfold fileR at h; rw [dif_neg hv] at h; cases h

abbrev FVs := List (BS × FV)
/-- what the map reads as -/
def dat (L : FVs) : DataW FV := .map (L.map fun y => (.string y.1, .held y.2))
theorem dat_find (L : FVs) (p : BS) : (L.map fun y => ((.string y.1 : Lit), (.held y.2 : DataW FV))).find? (fun z => z.1.sameKey (.string p)) = (L.find? (fun y => decide (y.1 = p))).map (fun y => (.string y.1, .held y.2)) := by
  rw [List.find?_map]
  have : ((fun z : Lit × DataW FV => z.1.sameKey (.string p)) ∘ fun y : BS × FV => (.string y.1, .held y.2)) = fun y => decide (y.1 = p) := by
    funext y; show (y.1 == p) = _; rw [Bool.eq_iff_iff]; simp
  rw [this]
theorem dat_at (L : FVs) (p : BS) (z : DataW FV) : (dat L).atKey (.string p) z = match look L p with | some f => .held f | none => z := by
  unfold dat DataW.atKey
  simp only [dat_find]
  unfold look
  cases L.find? (fun y => decide (y.1 = p)) <;> rfl
theorem dat_has (L : FVs) (p : BS) : has (dat L) (.string p) = (look L p).isSome := by
  have h1 := dat_at L p .nil
  cases hl : look L p with
  | some f =>
    refine has_true_of_atKey (y := .held f) fun zd => ?_
    rw [dat_at, hl]
  | none =>
    refine has_false_of_atKey fun zd => ?_
    rw [dat_at, hl]
theorem dat_size (L : FVs) : size (dat L) = L.length := by simp [dat, size]
theorem dat_ins (x : BS × FV) : ∀ L : FVs, DataW.insert ((.string x.1 : Lit), (.held x.2 : DataW FV)) (L.map fun y => (.string y.1, .held y.2)) = (ins x L).map fun y => (.string y.1, .held y.2)
  | [] => rfl
  | y :: r => by
    simp only [List.map_cons, DataW.insert, ins, Lit.before, bytesBefore_lt, decide_eq_true_eq]
    split
    · rfl
    · rw [dat_ins x r]; rfl
theorem dat_drp (p : BS) (L : FVs) : (L.map fun y => ((.string y.1 : Lit), (.held y.2 : DataW FV))).filter (fun z => !z.1.sameKey (.string p)) = (drp p L).map fun y => (.string y.1, .held y.2) := by
  rw [List.filter_map]
  have : ((fun z : Lit × DataW FV => !z.1.sameKey (.string p)) ∘ fun y : BS × FV => (.string y.1, .held y.2)) = fun y => decide (y.1 ≠ p) := by
    funext y; show (!(y.1 == p)) = _; rw [Bool.eq_iff_iff]; simp
  rw [this]; rfl
theorem dat_put (p : BS) (f : FV) (L : FVs) : (dat L).put (.string p) (.held f) = dat (put (p, f) L) := by
  show DataW.map _ = _
  rw [dat_drp, dat_ins (p, f)]; rfl
theorem dat_del (p : BS) (L : FVs) : (dat L).del (.string p) = dat (drp p L) := by
  show DataW.map _ = _
  rw [dat_drp]; rfl

theorem lawK : Keyed Try.prog 9 := string_keyed Try.underlying9
theorem hkeyS {s : ByteArray} (hs : s.size ≤ maxLen) : keyOf Try.prog 9 (.string s) = some (.string s.data.toList) := Go.WideMaps.keyOf_string_mk Try.underlying9 hs
theorem zeroF (w : World) : (zeroValue 85).run Try.prog w = .ok (fileV ([], 0, none)) w := by kernel_rfl

theorem ownsMap_tight {H : Type} {P : Program} {k : TypeId} {R : Value → Option (DataW H × List MemPlace)} {w : World} {b n : Nat} {D : DataW H} (h : w.ownsMap P k R b n D) : w.ownsMap P k R b (Maps.size D) D := by
  obtain ⟨es, clock, hb, F, hs, rfl⟩ := h
  exact ⟨es, clock, hb, F, by simp [Maps.size, length_sorted], rfl⟩

/-- Block b is a map that holds L. -/
def IsM (w : World) (b : Nat) (L : FVs) : Prop := w.ownsMap Try.prog 9 fileR b L.length (dat L) ∧ Srt L
theorem IsM.of {w : World} {b n : Nat} {L : FVs} (h : w.ownsMap Try.prog 9 fileR b n (dat L)) (hs : Srt L) : IsM w b L := by
  have := ownsMap_tight h
  rw [dat_size] at this
  exact ⟨this, hs⟩
theorem IsM.lt {w : World} {b : Nat} {L : FVs} (h : IsM w b L) : b < w.heap.size := h.1.lt
theorem IsM.kept {w w' : World} {b : Nat} {L : FVs} (h : IsM w b L) (hb : w'.heap[b]? = w.heap[b]?) : IsM w' b L := by
  obtain ⟨⟨es, clock, hh, r⟩, hs⟩ := h
  exact ⟨⟨es, clock, hb.trans hh, r⟩, hs⟩
theorem IsM.notCells {w : World} {b : Nat} {L : FVs} (h : IsM w b L) {c : Nat} {cs : Array Value} {t : TypeId} {fz : Nat × Nat} (hc : w.heap[c]? = some (.cells cs t fz)) : c ≠ b := by
  obtain ⟨⟨es, clock, hh, _⟩, _⟩ := h
  rintro rfl
  rw [hh] at hc; cases hc
theorem IsM.made (w : World) : IsM (w.alloc (.map #[] 0)) w.heap.size [] := ⟨World.ownsMap_made w _ _ _, Srt.nil⟩

/-- The value is a map that holds L, or nil, and L is empty. -/
def MapV (w : World) (m : Option Nat) (L : FVs) : Prop := (m = none ∧ L = []) ∨ ∃ b, m = some b ∧ IsM w b L
theorem MapV.srt {w : World} {m : Option Nat} {L : FVs} (h : MapV w m L) : Srt L := by
  rcases h with ⟨_, rfl⟩ | ⟨b, _, h⟩
  · exact Srt.nil
  · exact h.2
def fileOr (L : FVs) (s : ByteArray) : FV := (look L s.data.toList).getD ([], 0, none)
theorem MapV.look {w : World} {m : Option Nat} {L : FVs} (h : MapV w m L) (s : ByteArray) (hs : s.size ≤ maxLen) :
    (Instr.lookup 64 (.map m) (.string s) false).run Try.prog w = .ok (fileV (fileOr L s)) w := by
  rcases h with ⟨rfl, rfl⟩ | ⟨b, rfl, h⟩
  · exact look_nil false lawK Try.underlying64 (zeroF w) (hkeyS hs)
  · obtain ⟨v, ps, hrun, hv⟩ := h.1.lookup lawK Try.underlying64 (zeroF w) (fileR_mk _) (hkeyS hs)
    rw [hrun]
    obtain ⟨f, rfl, hf⟩ := fileR_inv hv
    rw [dat_at] at hf
    unfold fileOr
    cases hl : Proofs.Ytginlknlkbhgaaa.look L s.data.toList with
    | none => rw [hl] at hf; cases hf; rfl
    | some g => rw [hl] at hf; cases hf; rfl
theorem MapV.lookOk {w : World} {m : Option Nat} {L : FVs} (h : MapV w m L) (s : ByteArray) (hs : s.size ≤ maxLen) :
    (Instr.lookup 64 (.map m) (.string s) true).run Try.prog w = .ok (.tuple #[fileV (fileOr L s), .bool (Proofs.Ytginlknlkbhgaaa.look L s.data.toList).isSome]) w := by
  rcases h with ⟨rfl, rfl⟩ | ⟨b, rfl, h⟩
  · exact look_nil true lawK Try.underlying64 (zeroF w) (hkeyS hs)
  · obtain ⟨v, ps, hrun, hv⟩ := h.1.look_ok lawK Try.underlying64 (zeroF w) (fileR_mk _) (hkeyS hs)
    rw [hrun, dat_has]
    obtain ⟨f, rfl, hf⟩ := fileR_inv hv
    rw [dat_at] at hf
    unfold fileOr
    cases hl : Proofs.Ytginlknlkbhgaaa.look L s.data.toList with
    | none => rw [hl] at hf; cases hf; rfl
    | some g => rw [hl] at hf; cases hf; rfl
theorem MapV.len {w : World} {m : Option Nat} {L : FVs} (h : MapV w m L) (ty : TypeId) : (Builtin.len_ #[64] ty #[.map m]).run Try.prog w = .ok (.int .i64 L.length) w := by
  rcases h with ⟨rfl, rfl⟩ | ⟨b, rfl, h⟩
  · exact len_nil Try.underlying64 ty
  · have := h.1.len Try.underlying64 ty
    rwa [dat_size] at this

/-- A range over the map is under way; rest is still to come. -/
def RngM (w : World) (b r : Nat) (L rest : FVs) : Prop :=
  ∃ left cnt, w.ranges Try.prog 9 fileR b r L.length (dat L) left cnt ∧ (∀ p, left (.string p) = (look rest p).isSome) ∧ Srt rest ∧ (∀ y ∈ rest, y ∈ L) ∧ Srt L
theorem RngM.isM {w : World} {b r : Nat} {L rest : FVs} (h : RngM w b r L rest) : IsM w b L := let ⟨_, _, h1, _, _, _, h2⟩ := h; ⟨h1.owns, h2⟩
theorem RngM.lt {w : World} {b r : Nat} {L rest : FVs} (h : RngM w b r L rest) : r < w.heap.size := let ⟨_, _, h1, _⟩ := h; h1.lt
theorem RngM.kept {w w' : World} {b r : Nat} {L rest : FVs} (h : RngM w b r L rest) (hb : w'.heap[b]? = w.heap[b]?) (hr : w'.heap[r]? = w.heap[r]?) : RngM w' b r L rest := by
  obtain ⟨left, cnt, ⟨es, clock, since, seen, c0, hb0, F, hs, hD, hr0, rr⟩, h2⟩ := h
  exact ⟨left, cnt, ⟨es, clock, since, seen, c0, hb.trans hb0, F, hs, hD, hr.trans hr0, rr⟩, h2⟩

section
variable (w : World) {ops : Array Oper} {rs : List Oper} {o : Oper} {a : Act} {Q : Exit → Act → World → Prop}

theorem wpList_range_m (hg : o.guard = none) (m : Operand) (hop : o.op = Op.range 64 m) (b : Nat) (L : FVs) (hm : a.eval m = .map (some b)) (hM : IsM w b L)
    (hK : ∀ w', RngM w' b w.heap.size L L → w.grownBy w' none → w'.heap.size = w.heap.size + 1 → wpList Try.prog ops Q rs (a.put o.dst (.pointer (some ⟨w.heap.size, 0, none⟩))) w') :
    wpList Try.prog ops Q (o :: rs) a w := by
  refine wpList_range_own w hg m 64 hop 9 85 lawK Try.underlying64 fileR b L.length (dat L) hm hM.1 ?_
  intro w' h1 h2 h3
  exact hK w' ⟨_, _, h1, fun p => dat_has L p, hM.2, fun _ h => h, hM.2⟩ h2 h3

theorem wpList_next_m (hg : o.guard = none) (it : Operand) (hop : o.op = Op.next it false) (b r : Nat) (L rest : FVs) (hit : a.eval it = .pointer (some ⟨r, 0, none⟩)) (h : RngM w b r L rest)
    (hDone : rest = [] → wpList Try.prog ops Q rs (a.put o.dst (.tuple #[.bool false])) w)
    (hMore : ∀ (s tx : ByteArray) (tm : Int) (en : Option Nat) (w' : World), (s.data.toList, tx.data.toList, tm, en) ∈ rest → s.size ≤ maxLen → RngM w' b r L (drp s.data.toList rest) → w'.rangeLeft b r < w.rangeLeft b r → w.grownBy w' (some r) → w'.heap.size = w.heap.size →
      (Instr.entry (.pointer (some ⟨r, 0, none⟩))).run Try.prog w' = .ok (.tuple #[.string s, .agg #[.string tx, .int .i64 tm, .pointer (endA en)]]) w' →
      wpList Try.prog ops Q rs (a.put o.dst (.tuple #[.bool true, .string s, .agg #[.string tx, .int .i64 tm, .pointer (endA en)]])) w') :
    wpList Try.prog ops Q (o :: rs) a w := by
  obtain ⟨left, cnt, hrg, hl, hsr, hsub, hsL⟩ := h
  refine wpList_next_ranges w hg it hop 9 lawK fileR encStr fileV (fun key kl hk => ?_) (fun v y hv => ?_) b r L.length (dat L) left cnt hit hrg ?_ ?_
  · obtain ⟨x, hx, _⟩ := keyOf_str Try.underlying9 hk; exact ⟨x, hx⟩
  · obtain ⟨f, hf, _⟩ := fileR_inv hv; exact ⟨f, hf⟩
  · intro _ hl0
    refine hDone ?_
    rcases rest with _ | ⟨y, r'⟩
    · rfl
    · have := hl y.1
      rw [hl0, look_of_mem hsr (v := y.2) (by simp)] at this
      cases this
  · intro x f kl y w' cnt' hkey hlk hv hat hrg' hlt hgr hsz hen
    obtain ⟨x', ex, rfl, hxl⟩ := keyOf_str Try.underlying9 hkey
    obtain rfl := encStr_inj ex
    obtain ⟨f', ef, rfl⟩ := fileR_inv hv
    obtain rfl := fileV_inj ef
    rw [hl] at hlk
    obtain ⟨g, hg'⟩ := Option.isSome_iff_exists.1 hlk
    have hgm := look_mem hg'
    have hfg : g = f := by
      have := hat .nil
      rw [dat_at, look_of_mem hsL (hsub _ hgm)] at this
      cases this; rfl
    subst hfg
    refine hMore (txt x) (txt g.1) g.2.1 g.2.2 w' (by rw [txt_data, txt_data]; exact hgm) (by rw [txt_size]; exact hxl) ⟨_, cnt', hrg', fun p => ?_, hsr.drp _, fun y hy => hsub y (mem_drp.1 hy).1, hsL⟩ ?_ hgr hsz hen
    · rw [txt_data, hl]
      by_cases hp : p = x
      · subst hp; rw [look_drp_same]; simp [Lit.sameKey]
      · rw [look_drp_other hsr hp]; simp [Lit.sameKey, hp]
    · rw [hrg'.left_eq, hrg.left_eq]; exact hlt

theorem wpList_store_m (hg : o.guard = none) (m x v : Operand) (hop : o.op = Op.mapUpdate 64 m x v) (b : Nat) (L : FVs) (hm : a.eval m = .map (some b)) (hM : IsM w b L) (hn : L.length < maxLen)
    (s : ByteArray) (hs : s.size ≤ maxLen) (f : FV) (hx : a.eval x = .string s) (hv : a.eval v = fileV f)
    (hK : ∀ w', IsM w' b (put (s.data.toList, f) L) → w.mapTurned w' b → wpList Try.prog ops Q rs (a.put o.dst undef) w') :
    wpList Try.prog ops Q (o :: rs) a w := by
  refine wpList_mapUpdate_in w hg m x v 64 hop 9 85 lawK Try.underlying64 fileR b L.length (dat L) hm hM.1 hn (.string s) (fileV f) _ hx hv (hkeyS hs) (.held f) [] (fileR_mk f) ?_
  intro w' h1 h2
  rw [dat_put] at h1
  exact hK w' (IsM.of h1 (hM.2.put _)) h2

theorem wpList_delete_m (hg : o.guard = none) (m x : Operand) (hop : o.op = Op.call { callee := Callee.builtin Builtin.delete, args := #[m, x], argTypes := #[64, 9] }) (b : Nat) (L : FVs) (hm : a.eval m = .map (some b)) (hM : IsM w b L)
    (s : ByteArray) (hs : s.size ≤ maxLen) (hx : a.eval x = .string s)
    (hK : ∀ w', IsM w' b (drp s.data.toList L) → w.mapTurned w' b → wpList Try.prog ops Q rs (a.put o.dst (.tuple #[])) w') :
    wpList Try.prog ops Q (o :: rs) a w := by
  refine wpList_delete_own w hg m x 64 9 hop 85 lawK Try.underlying64 fileR b L.length (dat L) hm hM.1 (.string s) _ hx (hkeyS hs) ?_
  intro w' h1 h2
  rw [dat_del] at h1
  exact hK w' (IsM.of h1 (hM.2.drp _)) h2
end

end Go.Proofs.Ytginlknlkbhgaaa
