/-
  What All answers: path and bytes of all files, by path, in a new row. For any tree.
-/
import Derived.Test.YtginlknlkbhgaaaFKeys
namespace Go.Proofs.Ytginlknlkbhgaaa
open Go.RowKit Go.Shelf Go.Maps

theorem rowFile : RowT 45 54 2 :=
  rowT_of (.agg #[.string ⟨#[]⟩, .string ⟨#[]⟩]) 32 Try.underlying45 (by kernel_rfl) (by decide) rfl (by decide)
abbrev AF := BS × BS
def afCells (f : AF) : List Value := [.string (txt f.1), .string (txt f.2)]
def filesOf (l : Fs) : List AF := l.map fun y => (y.1, y.2.1)

/-- An append whose run is known. -/
theorem wpList_append_eq {P : Program} {w : World} {ops : Array Oper} {rest : List Oper} {o : Oper} {a : Act} {Q : Exit → Act → World → Prop} (hg : o.guard = none) (s x : Operand) (t : TypeId)
    (hop : o.op = Op.call { callee := Callee.builtin Builtin.append, args := #[s, x], argTypes := #[t, t] }) (v u v' : Value) (w' : World) (hs : a.eval s = v) (hx : a.eval x = u)
    (hrun : (Builtin.append_ #[t, t] o.type #[v, u]).run P w = .ok v' w') (h : wpList P ops Q rest (a.put o.dst v') w') : wpList P ops Q (o :: rest) a w := by
  refine wpList_plain hg fun K hK => ?_
  unfold Oper.wp
  simp [execOp, hop, resolve, invoke, builtin, hs, hx, hrun, Result.andThen]
  exact hK _ _ h

/-- How it stands in All: the tree is there, the paths' row is there, and so many files are told. -/
def AllAt (w0 w2 : World) (kv : Value) (L : FVs) (k : Nat) (v : Value) (wr : World) : Prop :=
  Below w0.heap.size w0 wr ∧ w2.heap.size ≤ wr.heap.size ∧ RowR 9 1 strCell wr (fun n => w0.heap.size ≤ n ∧ n < w2.heap.size) kv (L.map (·.1)) ∧
  RowR 54 2 afCells wr (fun n => w2.heap.size ≤ n) v ((filesOf (strip L)).take k)
theorem AllAt.push {w0 w2 wr : World} {kv v : Value} {L : FVs} {k : Nat} (h : AllAt w0 w2 kv L k v wr) (hw : w0.heap.size ≤ w2.heap.size) (hl : L.length < 1073741824) (p t : BS) (hk : (filesOf (strip L))[k]? = some (p, t)) :
    ∃ v' w', (Builtin.append_ #[45, 45] 45 #[v, .slice (some ⟨wr.heap.size, 0, none⟩) 1 1]).run Try.prog (wr.alloc (.cells #[.string (txt p), .string (txt t)] 54)) = .ok v' w' ∧ AllAt w0 w2 kv L (k + 1) v' w' ∧ ∃ o n c, v' = .slice o n c := by
  obtain ⟨h1, h2, h3, h4⟩ := h
  have hT : Turned (fun _ => False) wr (wr.alloc (.cells #[.string (txt p), .string (txt t)] 54)) := Turned.alloc _ _ _
  have hlen : ((filesOf (strip L)).take k).length < 1099511627776 := by
    have := List.length_take_le k (filesOf (strip L))
    have hx : (filesOf (strip L)).length = L.length := by unfold filesOf; rw [List.length_map, strip_length]
    rw [List.length_take]; omega
  obtain ⟨v', w', r1, r2, r3, o, c, r4⟩ := (h4.kept hT (fun _ _ => id)).push rowFile (p, t) rfl (by simp [afCells, Value.oneCell']) wr.heap.size 1 (0, 0) (World.alloc_heap_new wr _) hlen 45
  have hs := r3.size
  rw [World.size_alloc] at hs r2
  refine ⟨v', w', r1, ⟨?_, by omega, (h3.kept hT (fun _ _ => id)).kept r3 (fun n hn hx => by omega), ?_⟩, o, _, c, r4⟩
  · exact (h1.alloc (Nat.le_trans hw h2) _).trans (r3.below (by have := h1.size; simp; omega) (fun n hn => Nat.le_trans hw hn))
  · have e : (filesOf (strip L)).take (k + 1) = (filesOf (strip L)).take k ++ [(p, t)] := by
      rw [List.take_add_one, hk]; rfl
    rw [e]
    exact r2.wider (fun n hn => by rcases hn with h | h <;> omega)

theorem filesOf_get {L : FVs} {k : Nat} (h : k < L.length) : (filesOf (strip L))[k]? = some (L[k].1, L[k].2.1) ∧ (L.map (·.1))[k]? = some L[k].1 := by
  unfold filesOf strip
  rw [List.map_map, List.getElem?_map, List.getElem?_map, List.getElem?_eq_getElem h]
  exact ⟨rfl, rfl⟩

set_option maxRecDepth 100000 in
set_option maxHeartbeats 4000000 in
theorem all_tree (bt : Nat) (X : Nat → Prop) (room : Int) (S : St) (w : World) (h : TreeS w X bt room S) (ho : OkS room S) (hpl : ∀ y ∈ S.now, y.1.length ≤ 1048576) :
    Calls Try.prog 26 #[.pointer (some ⟨bt, 0, none⟩)] w fun r w' => ∃ v, r = .returned v ∧ RowR 54 2 afCells w' (fun n => w.heap.size ≤ n) v (filesOf S.now) ∧ Below w.heap.size w w' := by
  obtain ⟨nm, sm, pv, YN, YS, YP, LN, LS, hq, h1, h2⟩ := id h
  have hl : LN.length < 1073741824 := by rw [← strip_length, h1]; have := ho.files; omega
  have c2 := hq.cells.cell.2.2.1
  have HK := Lib.hid (keys_any nm w)
  have HS := Lib.hid (sorted_any nm LN w hq.now.map hl)
  have HC2 : Hid (∀ w1, CkAt w w1 → w1.cell? ⟨bt, 2, none⟩ = some (.map nm)) := fun w1 hb => (hq.cells.below hb hq.cells.lt).cell.2.2.1
  have HL : Hid (∀ w1, CkAt w w1 → ∀ y ∈ LN, (Instr.lookup 64 (.map nm) (.string (txt y.1)) false).run Try.prog w1 = .ok (.agg #[.string (txt y.2.1), .int .i64 y.2.2.1, .pointer (endA y.2.2.2)]) w1) := by
    intro w1 hb y hm
    have hyl : y.1.length ≤ 1048576 := hpl (y.1, fd y.2) (by rw [← h1]; exact List.mem_map.2 ⟨_, hm, rfl⟩)
    have := (hq.now.map.below hb (Nat.le_refl _)).look (txt y.1) (by rw [txt_size]; unfold maxLen; omega)
    unfold fileOr at this
    rw [txt_data, look_of_mem hq.now.map.srt (v := y.2) hm] at this
    exact this
  have hfl := field0
  rw [← h1]
  have hlc : (LN.length : Int) < 9223372036854775807 := by omega
  clear h hq h1 h2 ho hpl
  go_enter Try.func26, Try.ntmps26
  go_wp2_with (first
    | (go_at_call 53; refine (HK.out).mono ?_; rintro e w1 ⟨rfl, rfl⟩)
    | (go_at_call 52; refine (HS.out).mono ?_; rintro e w2 ⟨kv, rfl, hr, hb⟩; obtain ⟨ko, kc, rfl, hsh⟩ := hr.shape (fun _ => rfl); rw [List.length_map] at hr hsh ⊢))
  have hA0 : AllAt w w2 (.slice ko LN.length kc) LN 0 (.slice none 0 0) w2 := ⟨hb, Nat.le_refl _, hr.tight, RowR.nil _ _ _ _ _⟩
  have hw2 := hb.size
  have HSH := Lib.hid hsh
  clear hr hsh HK HS
  rcases Nat.eq_zero_or_pos LN.length with hz | hpos
  · clear HSH
    go_loopw [13, 3] (fun i v wr => ∃ k : Nat, k ≤ LN.length ∧ i = .int .i64 k ∧ AllAt w w2 (.slice ko LN.length kc) LN k v wr) (fun i _ _ => LN.length - (intOf i).toNat)
    case atStart => exact ⟨0, Nat.zero_le _, rfl, hA0⟩
    case round =>
      obtain ⟨k, hk, rfl, hA⟩ := hrel
      have hlt : ¬ k < LN.length := by omega
      · have hE := Lib.hid hA
        have hkk : k = LN.length := by omega
        clear hA HL HC2
        go_wp2
        go_ret
        refine ⟨_, rfl, ?_, hE.out.1⟩
        have h4 := hE.out.2.2.2
        rw [List.take_of_length_le (by rw [hkk]; unfold filesOf; rw [List.length_map, strip_length]; exact Nat.le_refl _)] at h4
        exact h4.wider (fun n hn => Nat.le_trans hw2 hn)
  · obtain ⟨g, rfl, _⟩ := HSH.out.2.2.2 0 LN[0].1 (filesOf_get hpos).2
    clear HSH
    go_loopw [13, 3] (fun i v wr => ∃ k : Nat, k ≤ LN.length ∧ i = .int .i64 k ∧ AllAt w w2 (.slice (some ⟨g, 0, none⟩) LN.length kc) LN k v wr) (fun i _ _ => LN.length - (intOf i).toNat)
    case atStart => exact ⟨0, Nat.zero_le _, rfl, hA0⟩
    case round =>
      obtain ⟨k, hk, rfl, hA⟩ := hrel
      by_cases hlt : k < LN.length
      · have hcell : wr.cell? ⟨g, k, none⟩ = some (.string (txt LN[k].1)) := by
          obtain ⟨o, c, hv, _, _, _, hcs⟩ := hA.2.2.1.shape (fun _ => rfl)
          obtain ⟨g', hg', hc⟩ := hcs k LN[k].1 (filesOf_get hlt).2
          rw [List.length_map] at hv
          cases hv
          cases hg'
          have := hc 0 (by omega)
          simpa [strCell] using this
        obtain ⟨v', w4, hrun, hA', vo, vn, vc, rfl⟩ := hA.push hw2 hl _ _ (filesOf_get hlt).1
        have c3 := HC2.out wr hA.1
        have hl3 := HL.out wr hA.1 LN[k] (List.getElem_mem hlt)
        generalize LN[k] = y at hcell hrun hl3
        obtain ⟨yp, yt, ym, ye⟩ := y
        simp only at hcell hrun hl3
        have HA' := Lib.hid hA'
        clear hA hA' HL HC2
        go_wp2_with (first
          | (at_builtin; refine wpList_append_eq rfl _ _ 45 rfl _ _ _ w4 rfl rfl hrun ?_)
          | go_in)
        go_roundw
        case rel => exact ⟨k + 1, hlt, by go_num, HA'.out⟩
        case measure => simp [intOf]; omega
      · have hE := Lib.hid hA
        have hkk : k = LN.length := by omega
        clear hA HL HC2
        go_wp2
        go_ret
        refine ⟨_, rfl, ?_, hE.out.1⟩
        have h4 := hE.out.2.2.2
        rw [List.take_of_length_le (by rw [hkk]; unfold filesOf; rw [List.length_map, strip_length]; exact Nat.le_refl _)] at h4
        exact h4.wider (fun n hn => Nat.le_trans hw2 hn)

end Go.Proofs.Ytginlknlkbhgaaa
