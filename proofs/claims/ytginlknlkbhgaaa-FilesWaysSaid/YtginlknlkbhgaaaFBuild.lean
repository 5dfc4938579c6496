/-
  A strings.Builder that lies anywhere: what WriteString and String do to it; which blocks turn. No condition but that the text stays below 2^40 bytes.
-/
import Derived.Test.YtginlknlkbhgaaaFShelf
import Derived.Test.YtginlknlkbhgaaaIter
import Derived.Test.YtginlknlkbhgaaaLBase
namespace Go.Proofs.Ytginlknlkbhgaaa
open Go.RowKit Go.Shelf

/-- Block b is a builder that holds l, and its blocks are of Y; p is what it knows of itself. -/
def BuiltP (w : World) (Y : Nat → Prop) (b : Nat) (p : Value) (l : List UInt8) : Prop :=
  ∃ v, w.heap[b]? = some (.cells #[p, v] 108 (0, 0)) ∧ w.ownsRowF 0 5 1 v l.length (Lib.byteCells l) ∧ (l = [] → v = .slice none 0 0) ∧ Y b ∧ ∀ g, v.ownBlock = some g → Y g
def BuiltIn (w : World) (Y : Nat → Prop) (b : Nat) (l : List UInt8) : Prop := BuiltP w Y b (.pointer (some ⟨b, 0, none⟩)) l

theorem BuiltP.lt {w : World} {Y : Nat → Prop} {b : Nat} {p : Value} {l : List UInt8} (h : BuiltP w Y b p l) : b < w.heap.size := by
  obtain ⟨v, hb, _⟩ := h
  exact (Array.getElem?_eq_some_iff.1 hb).1
theorem BuiltP.kept {w w' : World} {Y Z X : Nat → Prop} {b : Nat} {p : Value} {l : List UInt8} (h : BuiltP w Y b p l) (hT : Turned X w w') (hd : ∀ n, Y n → ¬ X n) (hZ : ∀ n, Y n → n < w.heap.size → Z n) : BuiltP w' Z b p l := by
  have hlt := h.lt
  obtain ⟨v, hb, hown, hnl, hyb, hyg⟩ := h
  refine ⟨v, (hT.block b hlt (hd b hyb)).trans hb, ⟨hown.1, ?_⟩, hnl, hZ b hyb hlt, fun g hg => hZ g (hyg g hg) (hown.lt g hg).2⟩
  rcases hown.2 with hn | ⟨g, cap, cur, fz, rfl, h1, hgg, rest⟩
  · exact .inl hn
  · have hg := hyg g (by simp [Value.ownBlock])
    exact .inr ⟨g, cap, cur, fz, rfl, h1, (hT.block g (Array.getElem?_eq_some_iff.1 hgg).1 (hd g hg)).trans hgg, rest⟩
theorem BuiltP.fresh (w : World) : BuiltP (w.alloc (.cells #[.pointer none, .slice none 0 0] 108 (0, 0))) (fun n => n = w.heap.size) w.heap.size (.pointer none) [] :=
  ⟨.slice none 0 0, World.alloc_heap_new w _, World.ownsRowF_nil _ _ _ _, fun _ => rfl, rfl, by simp [Value.ownBlock]⟩

theorem strCells_bytes (s : ByteArray) : Lib.strCells s = Lib.byteCells s.data.toList := rfl

theorem turned_grown {X : Nat → Prop} {a b : World} {row : Option Nat} (h : a.grownBy b row) (hr : ∀ g, row = some g → X g) : Turned X a b :=
  ⟨h.os, h.tape, h.output, h.size, fun k hk hx => h.block k hk (fun e => hx (hr k e.symm))⟩

set_option maxRecDepth 100000 in
set_option maxHeartbeats 1000000 in
theorem copyCheck_any (b : Nat) (Y : Nat → Prop) (p : Value) (hp : p = .pointer none ∨ p = .pointer (some ⟨b, 0, none⟩)) (l : List UInt8) (w : World) (h : BuiltP w Y b p l) :
    Calls Try.prog 81 #[.pointer (some ⟨b, 0, none⟩)] w fun e w' => e = .returned (.tuple #[]) ∧ BuiltIn w' Y b l ∧ Turned Y w w' ∧ w'.heap.size = w.heap.size := by
  have h0 := h
  obtain ⟨v, hb, hown, hnl, hyb, hyg⟩ := h
  rcases hp with rfl | rfl
  · refine (Any.Builder_copyCheck_fresh (ρ := lays166_ren) { lays166 with } extra166.toX72 b w (by rw [Lib.cell_of_heap hb]; rfl) (by simp [World.shape?, hb]; rfl) (Lib.frozen_of_heap hb 0)).mono ?_
    rintro e w' ⟨rfl, rfl⟩
    have hne := Lib.ownBlock_neF hown hb (by decide)
    refine ⟨rfl, ⟨v, by simp [World.setCell, Array.getElem?_modify, hb], hown.kept (row := some b) ⟨rfl, rfl, rfl, by simp [World.setCell], fun k _ hk => Below.heap_setCell _ _ _ _ (fun e => hk (by simp [e]))⟩ (Or.inr hne), hnl, hyb, hyg⟩, Turned.setCell _ _ _ hyb, by simp⟩
  · refine (Any.Builder_copyCheck_used (ρ := lays166_ren) { lays166 with } extra166.toX72 b w (by rw [Lib.cell_of_heap hb]; rfl)).mono ?_
    rintro e w' ⟨rfl, rfl⟩
    exact ⟨rfl, h0, Turned.refl _ _, rfl⟩

/-- An append of a text to a row of bytes: as the library says it, and: the row is where it was, or in a new block. -/
theorem run_append_place {P : Program} (w : World) (t u ty e : TypeId) (i : TypeInfo) (ht : P.underlying t = some (.slice e)) (hu : P.underlying u = some .string) (hi : P.info? e = some i) (hz : i.zero = some (.int .u8 0))
    (hsize : i.size = 1) (hby : i.bytes = 1) (v : Value) (n : Nat) (xs : List Value) (hown : w.ownsRowF 0 e 1 v n xs) (s : ByteArray) (h63 : n + s.size ≤ maxLen) (hbytes : n + s.size ≤ 140737488355328) :
    ∃ v' w', (Builtin.append_ #[t, u] ty #[v, .string s]).run P w = .ok v' w' ∧ w'.ownsRowF 0 e 1 v' (n + s.size) (xs ++ Lib.strCells s) ∧ w.grownBy w' v.ownBlock ∧ (v' = .slice none 0 0 ↔ v = .slice none 0 0 ∧ s.size = 0) ∧ ∀ g, v'.ownBlock = some g → v.ownBlock = some g ∨ w.heap.size ≤ g := by
  obtain ⟨v', w', h1, h2, h3, h4⟩ := Lib.run_append_own_stringF (P := P) w 0 t u ty e i ht hu hi hz hsize hby v n xs hown s h63 hbytes (Nat.zero_le _)
  rcases hown.2 with ⟨rfl, rfl⟩ | ⟨g, cap, cur, fz, rfl, hbg, hg, hfz, hnc, hcm, hcs, htake⟩
  · obtain ⟨v1, w1, k1, k2, k3, _⟩ := Lib.run_append_own_stringF (P := P) w w.heap.size t u ty e i ht hu hi hz hsize hby (.slice none 0 0) 0 xs ⟨hown.1, .inl ⟨rfl, rfl⟩⟩ s h63 hbytes (Nat.le_refl _)
    rw [k1] at h1
    cases h1
    exact ⟨_, _, k1, h2, h3, h4, fun g hg => .inr (k2.lt g hg).1⟩
  · refine ⟨v', w', h1, h2, h3, h4, fun g' hg' => ?_⟩
    have hxl : xs.length = n := by simpa using hown.1
    by_cases hroom : n + s.size ≤ cap
    · have hcs' : cur.size = cap := by simpa using hcs
      have hr := Lib.run_append_room_stringF (P := P) w t u ty e i ht hu hi hsize g n cap cur fz hg (by simpa using hfz) s hroom (by omega)
      rw [hr] at h1
      cases h1
      exact .inl hg'
    · have hr := Lib.run_append_grow_string (P := P) w t u ty e i (.int .u8 0) ht hu hi hz ⟨g, 0, none⟩ n cap xs (by rw [hsize]; simpa using hxl) (hown.cells (g := g) rfl) s (by omega) (by unfold maxLen at h63; omega) (by rw [hby]; exact growslice_fits (by unfold maxLen at h63; omega) (by omega))
      rw [hr] at h1
      cases h1
      simp only [Value.ownBlock, Option.some.injEq] at hg'
      omega

theorem wpList_append_place {P : Program} (w : World) {ops : Array Oper} {rest : List Oper} {o : Oper} {a : Act} {Q : Exit → Act → World → Prop} (hgd : o.guard = none) (sl x : Operand) (t u : TypeId)
    (ho : o.op = .call { callee := .builtin .append, args := #[sl, x], argTypes := #[t, u] }) (e : TypeId) (i : TypeInfo) (ht : P.underlying t = some (.slice e)) (hu : P.underlying u = some .string) (hi : P.info? e = some i) (hz : i.zero = some (.int .u8 0))
    (hsize : i.size = 1) (hby : i.bytes = 1) (v : Value) (n : Nat) (xs : List Value) (hs : a.eval sl = v) (hown : w.ownsRowF 0 e 1 v n xs) (s : ByteArray) (hx : a.eval x = .string s) (h63 : n + s.size ≤ maxLen) (hbytes : n + s.size ≤ 140737488355328)
    (h : ∀ v' w', w'.ownsRowF 0 e 1 v' (n + s.size) (xs ++ Lib.strCells s) → w.grownBy w' v.ownBlock → (v' = .slice none 0 0 ↔ v = .slice none 0 0 ∧ s.size = 0) → (∀ g, v'.ownBlock = some g → v.ownBlock = some g ∨ w.heap.size ≤ g) → wpList P ops Q rest (a.put o.dst v') w') : wpList P ops Q (o :: rest) a w := by
  refine wpList_plain hgd fun K hK => ?_
  obtain ⟨v', w', hr, h2, h3, h4, h5⟩ := run_append_place (P := P) w t u o.type e i ht hu hi hz hsize hby v n xs hown s h63 hbytes
  unfold Oper.wp execOp
  simp only [ho, resolve, invoke, builtin, Sem.run_bind, Sem.run_pure, Result.andThen_ok, List.map_toArray, List.map_cons, List.map_nil, hs, hx, hr]
  exact hK _ _ (h v' w' h2 h3 h4 h5)

set_option maxRecDepth 100000 in
set_option maxHeartbeats 2000000 in
theorem write_any (b : Nat) (Y : Nat → Prop) (p : Value) (hp : p = .pointer none ∨ p = .pointer (some ⟨b, 0, none⟩)) (l : List UInt8) (s : ByteArray) (w : World) (h : BuiltP w Y b p l) (hlen : l.length + s.size ≤ 1099511627776) :
    Calls Try.prog 69 #[.pointer (some ⟨b, 0, none⟩), .string s] w fun e w' => e = .returned (.tuple #[.int .i64 s.size, .nilIface]) ∧ BuiltIn w' (fun n => Y n ∨ w.heap.size ≤ n) b (l ++ s.data.toList) ∧ Turned Y w w' := by
  obtain ⟨i0, hi, hz0, hz1, hz2⟩ := info_parts extra166.infoByte
  have HC := Lib.hid (copyCheck_any b Y p hp l w h)
  clear h
  go_enter Try.func69, Try.ntmps69
  go_wp2_with (go_at_call 81; refine (HC.out).mono ?_)
  rintro e w1 ⟨rfl, hb1, ht1, hsz1⟩
  obtain ⟨v, hbk, hown, hnl, hyb, hyg⟩ := hb1
  have c1 : w1.cell? ⟨b, 1, none⟩ = some v := by rw [Lib.cell_of_heap hbk]; rfl
  clear HC
  go_wp2_with (at_builtin; refine wpList_append_place _ rfl _ _ 106 9 rfl 5 i0 Try.underlying106 Try.underlying9 hi hz0 hz1 hz2 _ _ _ rfl hown s rfl ?c3 ?c4 ?_)
  case c3 => unfold maxLen; omega
  case c4 => omega
  intro v' w2 hown' hgrow hnil hplace
  have HN : Hid (l ++ s.data.toList = [] → v' = .slice none 0 0) := fun e => hnil.2 ⟨hnl (List.append_eq_nil_iff.1 e).1, by rw [← txt_toList s, (List.append_eq_nil_iff.1 e).2]; rfl⟩
  clear hnil hnl
  have hne := Lib.ownBlock_neF hown hbk (by decide)
  have hlt : b < w1.heap.size := (Array.getElem?_eq_some_iff.1 hbk).1
  have hb2 : w2.heap[b]? = some (.cells #[.pointer (some ⟨b, 0, none⟩), v] 108 (0, 0)) := (hgrow.block b hlt (fun e => hne e.symm)).trans hbk
  have d0 : w2.cell? ⟨b, 0, none⟩ = some (.pointer (some ⟨b, 0, none⟩)) := by rw [Lib.cell_of_heap hb2]; rfl
  have d1 : w2.cell? ⟨b, 1, none⟩ = some v := by rw [Lib.cell_of_heap hb2]; rfl
  have f1 : w2.frozen? ⟨b, 1, none⟩ = false := Lib.frozen_of_heap hb2 1
  obtain ⟨ao, n', cap, rfl⟩ : ∃ ao n' cap, v' = .slice ao n' cap := by
    rcases hown'.2 with ⟨hv, _⟩ | ⟨g, cap, cur, fz, hv, _⟩
    · exact ⟨_, _, _, hv⟩
    · exact ⟨_, _, _, hv⟩
  have HT : Hid (Turned Y w w2) := ht1.trans (turned_grown hgrow hyg)
  have HG : Hid (∀ g, (Value.slice ao n' cap).ownBlock = some g → Y g ∨ w.heap.size ≤ g) := fun g hg => (hplace g hg).elim (fun h => .inl (hyg g h)) (fun h => .inr (by omega))
  have HB : Hid (Lib.BuilderAtF 108 5 0 b (.pointer (some ⟨b, 0, none⟩)) (Lib.byteCells (l ++ s.data.toList)) (w2.setCell ⟨b, 1, none⟩ (.slice ao n' cap))) := by
    refine Lib.BuilderAtF.put (Nat.zero_le _) hb2 ?_ (by decide)
    have e1 : Lib.byteCells (l ++ s.data.toList) = Lib.byteCells l ++ Lib.strCells s := by rw [strCells_bytes]; simp [Lib.byteCells]
    rw [e1, List.length_append, Lib.byteCells_length, Lib.strCells_length]
    exact hown'
  clear hown' hgrow ht1 hown hplace
  go_wp2
  go_ret2
  refine ⟨rfl, ?_, HT.out.trans (Turned.setCell _ _ _ hyb)⟩
  obtain ⟨_, v2, hv2, ho2, _⟩ := HB.out
  have ev : v2 = .slice ao n' cap := by
    have : (w2.setCell ⟨b, 1, none⟩ (.slice ao n' cap)).heap[b]? = some (.cells #[.pointer (some ⟨b, 0, none⟩), .slice ao n' cap] 108 (0, 0)) := by simp [World.setCell, Array.getElem?_modify, hb2]
    rw [this] at hv2
    simpa using hv2.symm
  subst ev
  exact ⟨_, hv2, by rw [← Lib.byteCells_length]; exact ho2, HN.out, .inl hyb, HG.out⟩

set_option maxRecDepth 100000 in
set_option maxHeartbeats 2000000 in
theorem string_some (b : Nat) (Y : Nat → Prop) (l : List UInt8) (w : World) (h : BuiltIn w Y b l) (h0 : l ≠ []) (hl : l.length ≤ 1099511627776) :
    Calls Try.prog 70 #[.pointer (some ⟨b, 0, none⟩)] w fun e w' => e = .returned (.string (txt l)) ∧ BuiltIn w' Y b l ∧ Turned Y w w' := by
  obtain ⟨v, hbk, hown, hnl, hyb, hyg⟩ := h
  have hl0 : l.length ≠ 0 := by simpa using h0
  obtain ⟨g, cap, cur, fz, rfl, hbg, hg, hfz, hnc, hcm, hcs, htake⟩ : ∃ g cap cur fz, v = .slice (some ⟨g, 0, none⟩) l.length cap ∧ 0 ≤ g ∧ w.heap[g]? = some (.cells cur 5 fz) ∧ fz.2 ≤ l.length * 1 ∧ l.length ≤ cap ∧ cap ≤ maxLen ∧ cur.size = cap * 1 ∧ cur.toList.take (l.length * 1) = Lib.byteCells l := by
    rcases hown.2 with ⟨_, hz⟩ | ⟨g, cap, cur, fz, hv, r⟩
    · exact absurd hz hl0
    · exact ⟨g, cap, cur, fz, hv, r⟩
  have hyg' : Y g := hyg g rfl
  have c1 : w.drew.cell? ⟨b, 1, none⟩ = some (.slice (some ⟨g, 0, none⟩) l.length cap) := by
    have : w.drew.heap[b]? = some (.cells #[.pointer (some ⟨b, 0, none⟩), .slice (some ⟨g, 0, none⟩) l.length cap] 108 (0, 0)) := hbk
    rw [Lib.cell_of_heap this]; rfl
  have hSD : (Builtin.unsafeSliceData_ #[106] 121 #[.slice (some ⟨g, 0, none⟩) l.length cap]).run Try.prog w.drew = .ok (.pointer (some ⟨g, 0, none⟩)) w.drew :=
    Lib.run_unsafeSliceData_row _ _ _ _ _ _ (by omega)
  have hUS : (Builtin.unsafeString_ #[121, 3] 9 #[.pointer (some ⟨g, 0, none⟩), .int .i64 l.length]).run Try.prog w.drew = .ok (.string (txt l)) (w.drew.freeze ⟨g, 0, none⟩ l.length) := by
    refine Lib.run_unsafeString_row w.drew 121 3 9 5 Try.underlying121 extra166.cellsByte g cur.size (by have hg' : w.drew.heap[g]? = some (.cells cur 5 fz) := hg; simp [World.shape?, hg']) l h0 (by omega) (by omega) ?_
    intro j x hx
    exact hown.cells (g := g) rfl j (.int .u8 x.toNat) (by simp [Lib.byteCells, hx])
  have hne := Lib.ownBlock_neF hown hbk (by decide)
  have HK : Hid (BuiltIn (w.drew.freeze ⟨g, 0, none⟩ l.length) Y b l) := by
    have hA : Lib.BuilderAtF 108 5 0 b (.pointer (some ⟨b, 0, none⟩)) (Lib.byteCells l) w.drew := ⟨Nat.zero_le _, _, hbk, by rw [Lib.byteCells_length]; exact hown, hne⟩
    have hF := hA.froze (g := g) (cap := cap) (by rw [Lib.byteCells_length]; exact c1)
    rw [Lib.byteCells_length] at hF
    obtain ⟨_, v2, hv2, ho2, _⟩ := hF
    have hgb : g ≠ b := fun e => hne (by simp [Value.ownBlock, e])
    have ev : v2 = .slice (some ⟨g, 0, none⟩) l.length cap := by
      have h1 : (w.drew.freeze ⟨g, 0, none⟩ l.length).heap[b]? = some (.cells #[.pointer (some ⟨b, 0, none⟩), .slice (some ⟨g, 0, none⟩) l.length cap] 108 (0, 0)) := by
        unfold World.freeze
        split
        · exact hbk
        · simp only [Array.getElem?_modify]; rw [if_neg hgb]; exact hbk
      rw [h1] at hv2
      simpa using hv2.symm
    subst ev
    exact ⟨_, hv2, by rw [Lib.byteCells_length] at ho2; exact ho2, fun e => absurd e h0, hyb, hyg⟩
  have HT : Hid (Turned Y w (w.drew.freeze ⟨g, 0, none⟩ l.length)) := by
    unfold World.freeze
    split
    · exact Turned.drew _ _
    · refine ⟨rfl, rfl, rfl, by simp, fun k _ hk => ?_⟩
      simp only [Array.getElem?_modify]
      rw [if_neg (fun e => hk (by rw [← e]; exact hyg'))]
      rfl
  have mixed := lays169.mixed
  clear hown htake hyg hyg' hg hbk hnl
  go_enter Try.func70, Try.ntmps70
  go_wp2
  go_region_o
  all_goals (go_wp2; go_ret; exact ⟨rfl, HK.out, HT.out⟩)

set_option maxRecDepth 100000 in
set_option maxHeartbeats 2000000 in
theorem string_any (b : Nat) (Y : Nat → Prop) (l : List UInt8) (w : World) (h : BuiltIn w Y b l) (hl : l.length ≤ 1099511627776) :
    Calls Try.prog 70 #[.pointer (some ⟨b, 0, none⟩)] w fun e w' => e = .returned (.string (txt l)) ∧ BuiltIn w' Y b l ∧ Turned Y w w' := by
  by_cases h0 : l = []
  · subst h0
    obtain ⟨v, hbk, hown, hnl, hyb, hyg⟩ := h
    obtain rfl := hnl rfl
    have hUS : ∀ (W : World) (q : Option Addr), (Builtin.unsafeString_ #[121, 3] 9 #[.pointer q, .int .i64 0]).run Try.prog W = .ok (.string (txt [])) W := fun W q => Any.unsafeString_none lays169 extra169 W q
    have c1 : w.drew.cell? ⟨b, 1, none⟩ = some (.slice none 0 0) := by
      have : w.drew.heap[b]? = some (.cells #[.pointer (some ⟨b, 0, none⟩), .slice none 0 0] 108 (0, 0)) := hbk
      rw [Lib.cell_of_heap this]; rfl
    have hSD : (Builtin.unsafeSliceData_ #[106] 121 #[.slice none 0 0]).run Try.prog w.drew = .ok (.pointer none) w.drew := rfl
    have mixed := lays169.mixed
    have HK : Hid (BuiltIn w.drew Y b []) := ⟨_, hbk, hown, fun _ => rfl, hyb, hyg⟩
    clear hbk hown hyg hl hnl
    go_enter Try.func70, Try.ntmps70
    go_wp2
    go_region_o
    all_goals (go_wp2; go_ret; exact ⟨rfl, HK.out, Turned.drew _ _⟩)
  · exact string_some b Y l w h h0 hl

end Go.Proofs.Ytginlknlkbhgaaa
