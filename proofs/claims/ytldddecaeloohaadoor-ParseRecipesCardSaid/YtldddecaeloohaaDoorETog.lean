/-
  What together answers: the lines that go on, put together and trimmed, and how many. For at most a million lines of at most a million bytes each. No condition.
-/
import Derived.OwnWalkIn
import Derived.TacticsInMore
import Derived.LoopIn
import Derived.LoopNIn
import Derived.WalkSpells
import Derived.Test.YtldddecaeloohaaDoorELib
import Derived.Test.YtldddecaeloohaaDoorEJoin
import Derived.Test.YtldddecaeloohaaDoorERow
namespace Go.Proofs.YtldddecaeloohaaDoor
open Go.RowKit Go.Shelf
attribute [local go_sem] Oper.semAt_some

/-- An append whose run is known. -/
theorem wpList_append_eq {P : Program} {w : World} {ops : Array Oper} {rest : List Oper} {o : Oper} {a : Act} {Q : Exit → Act → World → Prop} (hg : o.guard = none) (s x : Operand) (t : TypeId)
    (hop : o.op = Op.call { callee := Callee.builtin Builtin.append, args := #[s, x], argTypes := #[t, t] }) (v u v' : Value) (w' : World) (hs : a.eval s = v) (hx : a.eval x = u)
    (hrun : (Builtin.append_ #[t, t] o.type #[v, u]).run P w = .ok v' w') (h : wpList P ops Q rest (a.put o.dst v') w') : wpList P ops Q (o :: rest) a w := by
  refine wpList_plain hg fun K hK => ?_
  unfold Oper.wp
  simp [execOp, hop, resolve, invoke, builtin, hs, hx, hrun, Result.andThen]
  exact hK _ _ h

/-! ### rows of texts of the call's own -/
abbrev encS (x : BS) : List Value := [.string (txt x)]
theorem rowStrings : RowT 41 9 1 :=
  rowT_of (.string ⟨#[]⟩) 16 Tryd.underlying41 (by kernel_rfl) (by decide) rfl (by decide)
def RowS (w0 w : World) (v : Value) (l : List BS) : Prop := RowR 9 1 encS w (fun n => w0.heap.size ≤ n ∧ n < w.heap.size) v l ∧ Below w0.heap.size w0 w
section
variable {w0 w w' : World} {v : Value} {l : List BS}
theorem RowS.start (h : Below w0.heap.size w0 w) : RowS w0 w (.slice none 0 0) [] := ⟨RowR.nil _ _ _ _ _, h⟩
theorem RowS.below (h : RowS w0 w v l) (hb : Below w.heap.size w w') : RowS w0 w' v l :=
  ⟨(h.1.kept (turned_below hb) (fun _ _ h => h)).wider (fun _ hn => ⟨hn.1, Nat.lt_of_lt_of_le hn.2 hb.size⟩), h.2.trans (hb.mono h.2.size)⟩
theorem RowS.reads (h : RowS w0 w v l) : ReadsO w w.heap.size v (l.map txt) := by
  obtain ⟨o, c, hv, q1, q2, q3, q4⟩ := h.1.shape (fun _ => rfl)
  refine ⟨o, c, by rw [List.length_map]; exact hv, fun j x hj => ?_⟩
  rw [List.getElem?_map] at hj
  obtain ⟨y, hy, rfl⟩ := Option.map_eq_some_iff.1 hj
  obtain ⟨g, hg, hx⟩ := q4 j y hy
  have h0 := hx 0 (by omega)
  rw [Nat.mul_one, Nat.add_zero] at h0
  exact ⟨g, 0, hg, h.1.lt g (by rw [hv, hg]; rfl), by rw [List.length_map]; exact q1, by rw [Nat.zero_add]; exact h0⟩
theorem RowS.slice (h : RowS w0 w v l) : ∃ o c, v = .slice o l.length c ∧ RowS w0 w (.slice o l.length c) l := by
  obtain ⟨o, c, hv, _⟩ := h.1.shape (fun _ => rfl)
  exact ⟨o, c, hv, hv ▸ h⟩
/-- One text more. -/
theorem RowS.push (h : RowS w0 w v l) (x : BS) (hl : l.length < 1099511627776) (ty : TypeId) :
    ∃ o c w', (Builtin.append_ #[41, 41] ty #[v, .slice (some ⟨w.heap.size, 0, none⟩) 1 1]).run Tryd.prog (w.alloc (.cells #[.string (txt x)] 9)) = .ok (.slice o (l.length + 1) c) w' ∧ RowS w0 w' (.slice o (l.length + 1) c) (l ++ [x]) := by
  have hba : Below w.heap.size w (w.alloc (.cells #[.string (txt x)] 9)) := (Below.refl _ w).alloc (Nat.le_refl _) _
  have h9 := h.below hba
  have hx9 := World.alloc_heap_new w (.cells #[.string (txt x)] 9)
  obtain ⟨v', w', hrun, hR, hT, o, c, rfl⟩ := RowR.push rowStrings h9.1 x rfl (by simp [Value.oneCell']) w.heap.size 1 (0, 0) hx9 hl ty
  refine ⟨o, c, w', hrun, hR.tight.wider (fun n hn => ⟨?_, hn.2⟩), h9.2.trans (hT.below (by exact h9.2.size) fun n hn => hn.1)⟩
  rcases hn.1 with hn | hn
  · exact hn.1
  · rw [hn]; exact h9.2.size
end
theorem joinOf_is (P : List BS) : joinOf (P.map txt) = joinP P := by
  unfold joinOf Lib.join
  rw [join_is, List.map_map]
  congr 1
  conv => rhs; rw [← List.map_id P]
  exact List.map_congr_left fun x _ => txt_data x

/-! ### together -/
/-- Lines that lie in a row. -/
structure LinesAt (w : World) (b o c : Nat) (ls : List BS) : Prop where
  lt : b < w.heap.size
  cap : ls.length ≤ c
  cell : ∀ (j : Nat) x, ls[j]? = some x → w.cell? ⟨b, o + j, none⟩ = some (.string (txt x))
theorem LinesAt.below {w w' : World} {b o c : Nat} {ls : List BS} (h : LinesAt w b o c ls) (hb : Below w.heap.size w w') : LinesAt w' b o c ls :=
  ⟨Nat.lt_of_lt_of_le h.lt hb.size, h.cap, fun j x hj => (hb.cell (p := ⟨b, o + j, none⟩) h.lt).trans (h.cell j x hj)⟩
def TogPost (a : BS) (r : List BS) (w : World) (e : Ending) (w' : World) : Prop := e = .returned (.tuple #[.string (txt (trimOf (glue a r).1)), .int .i64 (((glue a r).2 + 1 : Nat))]) ∧ Below w.heap.size w w'

set_option maxRecDepth 100000 in
set_option maxHeartbeats 2000000 in
theorem together_any (b o c n : Nat) (a : BS) (r : List BS) (hn : n = r.length + 1) (w : World) (h : LinesAt w b o c (a :: r)) (hr : r.length ≤ 1000000) (hl : ∀ l ∈ a :: r, l.length ≤ 1000000) :
    Calls Tryd.prog 41 #[.slice (some ⟨b, o, none⟩) n c] w (TogPost a r w) := by
  have hcap : n ≤ c := by have := h.cap; simp at this; omega
  have hn31 : n ≤ 1000001 := by omega
  have HX : Hid (∀ W, Below w.heap.size w W → ∀ (j : Nat) x, (a :: r)[j]? = some x → W.cell? ⟨b, o + j, none⟩ = some (.string (txt x))) := fun W hb => (h.below hb).cell
  have HN : Hid (n = r.length + 1 ∧ (a :: r).length = n) := ⟨hn, by simp [hn]⟩
  have HL := Lib.hid hl
  have HG : Hid ((trimOf (glue a r).1).length ≤ 140737488355328) := by
    have h1 := trim_len (glue a r).1
    have h2 := glue_len 1000000 r a (fun l hm => hl l (List.mem_cons_of_mem _ hm))
    have h3 := hl a (by simp)
    have h4 : r.length * (1000000 + 1) ≤ 1000000 * (1000000 + 1) := Nat.mul_le_mul_right _ hr
    show _ ≤ _
    omega
  clear h hr hl hn
  go_enter Tryd.func41, Tryd.ntmps41
  go_wp2_with fail
  go_loopw [4, 5, 6] (fun pv i g wr => ∃ (k : Nat) (gb : Bool) (P : List BS), k ≤ n ∧ i = .int .i64 k ∧ g = .bool gb ∧ Put a r k gb P ∧ RowS w wr pv P) (fun _ i _ _ => n - (intOf i).toNat)
  case atStart => exact ⟨0, true, [], Nat.zero_le _, rfl, rfl, Put.start a r, RowS.start (Below.refl _ _)⟩
  case round =>
    obtain ⟨k, gb, P, hk, rfl, rfl, hP, hR0⟩ := hrel
    obtain ⟨qo, qc, rfl, hR⟩ := hR0.slice
    clear hR0
    have HE : ∀ (_ : gb = false ∨ r.length < k), Hid (k = (glue a r).2 + 1 ∧ joinP P = trimOf (glue a r).1 ∧ Calls Tryd.prog 54 #[.slice qo P.length qc] wr (fun e w' => e = .returned (.string (txt (trimOf (glue a r).1))) ∧ Below wr.heap.size wr w') ∧ Below w.heap.size w wr) := by
      intro he
      obtain ⟨h1, h2⟩ := hP.done he
      have hJ := textJoin_any (.slice qo P.length qc) (P.map txt) wr hR.reads (by have := hP.few; rw [List.length_map]; omega) (by rw [joinOf_is, h2]; exact HG.out)
      rw [joinOf_is, h2] at hJ
      exact ⟨h1, h2, hJ, hR.2⟩
    cases gb with
    | false =>
      have HE' := HE (.inl rfl)
      clear HE hP hR HX HL HG HN
      go_wp2_with fail
      refine HE'.out.2.2.1.mono ?_
      rintro e w1 ⟨rfl, hb1⟩
      go_wp2_with fail
      go_ret2
      exact ⟨by rw [← HE'.out.1]; rfl, HE'.out.2.2.2.trans (hb1.mono HE'.out.2.2.2.size)⟩
    | true =>
      by_cases hlt : k < n
      · obtain ⟨lb, hlb⟩ : ∃ lb, (a :: r)[k]? = some lb := ⟨(a :: r)[k]'(by rw [HN.out.2]; exact hlt), List.getElem?_eq_getElem _⟩
        have hcell := HX.out wr hR.2 k lb hlb
        have hlen : lb.length ≤ 1000000 := HL.out lb (List.mem_of_getElem? hlb)
        have hG := goOn_any (txt lb) (by rw [txt_size]; unfold maxLen; omega) wr
        rw [txt_data] at hG
        have hcl : (coreL lb).length ≤ 1000000 := by
          unfold coreL
          split
          · rw [List.length_dropLast]; omega
          · exact hlen
        have HT : Hid (∀ W, Calls Tryd.prog 44 #[.string (txt (coreL lb))] W fun e w' => e = .returned (.string (txt (pieceL lb))) ∧ Below W.heap.size W w') := fun W => by
          have := trim_any (txt (coreL lb)) (by rw [txt_size]; unfold maxLen; omega) W
          rw [txt_data] at this
          exact this
        have HGo := Lib.hid hG
        clear HE hG HX HL HG hcl hlen
        by_cases hp : pieceL lb = []
        · have HP := Lib.hid (hP.skip hlb hp)
          have HR := Lib.hid hR
          have hp1 : (txt (pieceL lb)).toList = [] := by rw [txt_toL]; exact hp
          clear hP hR hlb hp
          go_wp2_with fail
          refine HGo.out.mono ?_
          rintro e w1 ⟨rfl, hb1⟩
          go_wp2_with fail
          refine (HT.out w1).mono ?_
          rintro e w2 ⟨rfl, hb2⟩
          go_wp2_with fail
          go_roundw
          case rel => exact ⟨k + 1, _, P, hlt, by go_num, rfl, HP.out, (HR.out.below hb1).below hb2⟩
          case measure => simp [intOf]; omega
        · have HP := Lib.hid (hP.next hlb hp)
          have HR := Lib.hid hR
          have hPl := hP.few
          have hp1 : (txt (pieceL lb)).toList.isEmpty = false := by rw [txt_toL]; simpa using hp
          clear hP hR hlb hp
          go_wp2_with fail
          refine HGo.out.mono ?_
          rintro e w1 ⟨rfl, hb1⟩
          go_wp2_with fail
          refine (HT.out w1).mono ?_
          rintro e w2 ⟨rfl, hb2⟩
          obtain ⟨po, pc, w3, hrun, hR3⟩ := ((HR.out.below hb1).below hb2).push (pieceL lb) (by omega) 41
          have HR3 := Lib.hid hR3
          clear hR3
          go_wp2_with (first
            | (at_builtin; refine wpList_append_eq rfl _ _ 41 rfl _ _ _ w3 rfl rfl hrun ?_)
            | go_in)
          go_roundw
          case rel => exact ⟨k + 1, _, _, hlt, by go_num, rfl, HP.out, HR3.out⟩
          case measure => simp [intOf]; omega
      · have HE' := HE (.inr (by have := HN.out.1; omega))
        clear HE hP hR HX HL HG HN
        go_wp2_with fail
        refine HE'.out.2.2.1.mono ?_
        rintro e w1 ⟨rfl, hb1⟩
        go_wp2_with fail
        go_ret2
        exact ⟨by rw [← HE'.out.1]; rfl, HE'.out.2.2.2.trans (hb1.mono HE'.out.2.2.2.size)⟩

end Go.Proofs.YtldddecaeloohaaDoor
