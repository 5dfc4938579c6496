/-
  A text, put behind a file's bytes in a map: for any map; which blocks turn. No condition but that texts stay below 2^40 bytes.
-/
import Derived.Deep.RegionHeld3
import Derived.Test.YtginlknlkbhgaaaFApply
namespace Go.Proofs.Ytginlknlkbhgaaa
open Go.RowKit Go.Shelf Go.Maps

theorem IsM.storeRun {w : World} {b : Nat} {L : FVs} (h : IsM w b L) (hn : L.length < maxLen) (s : ByteArray) (hs : s.size ≤ maxLen) (tx : BS) (tm : Int) (e : Nat) :
    ∃ w', (Instr.mapUpdate 64 (.map (some b)) (.string s) (.agg #[.string (txt tx), .int .i64 tm, .pointer (some ⟨e, 0, none⟩)])).run Try.prog w = .ok () w' ∧ IsM w' b (put (s.data.toList, tx, tm, some e) L) ∧ Turned (fun n => n = b) w w' := by
  obtain ⟨w', hr, h1, h2⟩ := h.1.store lawK Try.underlying64 hn (hkeyS hs) (fileR_mk (tx, tm, some e))
  rw [dat_put] at h1
  exact ⟨w', hr, IsM.of h1 (h.2.put _), turned_map h2⟩

/-- How it stands behind extended and the store. -/
def AppAt (w : World) (Y : Nat → Prop) (b : Nat) (L : FVs) (p : BS) (ts : BS) (t : Int) (w' : World) : Prop :=
  ∃ Y' L', NowR w' Y' (some b) L' ∧ strip L' = put (p, ts, t) (strip L) ∧ Turned Y w w' ∧ ∀ n, Y' n → Y n ∨ w.heap.size ≤ n

/-- One file's end, new or written on; all the others as they were. -/
theorem grow {w w1 w2 : World} {Y Z Z2 : Nat → Prop} {b : Nat} {L : FVs} {p ts : BS} {t : Int} {e : Nat} (hY : Y b) (hlt : ∀ n, Y n → n < w.heap.size) (f : Nat → Nat)
    (h1 : ∀ y ∈ L, ∀ e, y.2.2.2 = some e → BuiltIn w (fun n => Y n ∧ f n = e ∧ some b ≠ some n) e y.2.1) (h2 : ∀ y ∈ L, ∀ z ∈ L, ∀ e, y.2.2.2 = some e → z.2.2.2 = some e → y = z)
    (hZ : ∀ n, Z n → Y n ∧ f n = e ∧ some b ≠ some n) (he : ∀ y ∈ L, y.1 ≠ p → y.2.2.2 ≠ some e)
    (hT : Turned Z w w1) (hB : BuiltIn w1 Z2 e ts) (hZ2 : ∀ n, Z2 n → Z n ∨ w.heap.size ≤ n) (hT2 : Turned (fun n => n = b) w1 w2) (hM : IsM w2 b (put (p, ts, t, some e) L)) : AppAt w Y b L p ts t w2 := by
  have hbl := hlt b hY
  have hTT : Turned (fun n => Z n ∨ n = b) w w2 := (hT.wider fun _ h => .inl h).trans (hT2.wider fun _ h => .inr h)
  have hs1 := hT.size
  have hs2 := hT2.size
  refine ⟨fun n => Y n ∨ (w.heap.size ≤ n ∧ n < w2.heap.size), _, ⟨fun c hc => by cases hc; exact .inl hY, .inr ⟨b, rfl, hM⟩, ?_, fun n => if w.heap.size ≤ n then e else f n, ?_, ?_⟩, strip_put _ _ _,
    hTT.wider (fun n hn => hn.elim (fun h => (hZ n h).1) (fun h => by rw [h]; exact hY)), fun n hn => hn.elim .inl (fun h => .inr h.1)⟩
  · rintro n (hn | hn)
    · have := hlt n hn; omega
    · exact hn.2
  · intro y hy e' he'
    rcases mem_put.1 hy with rfl | ⟨hy, hne⟩
    · obtain rfl : e = e' := Option.some.inj he'
      refine hB.kept hT2 (fun n hn hx => ?_) (fun n hn hnl => ?_)
      · subst hx
        rcases hZ2 _ hn with h | h
        · exact (hZ _ h).2.2 rfl
        · omega
      · rcases hZ2 n hn with h | h
        · obtain ⟨q1, q2, q3⟩ := hZ n h
          have := hlt n q1
          exact ⟨.inl q1, (if_neg (by omega)).trans q2, q3⟩
        · exact ⟨.inr ⟨h, by omega⟩, if_pos h, fun hb => by cases hb; omega⟩
    · have hee : e' ≠ e := fun hx => he y hy hne (by rw [← hx]; exact he')
      refine (h1 y hy e' he').kept hTT (fun n hn hx => ?_) (fun n hn hnl => ?_)
      · rcases hx with hx | hx
        · exact hee (hn.2.1.symm.trans (hZ n hx).2.1)
        · exact hn.2.2 (by rw [hx])
      · exact ⟨.inl hn.1, (if_neg (by omega)).trans hn.2.1, hn.2.2⟩
  · intro y hy z hz e' hy' hz'
    rcases mem_put.1 hy with rfl | ⟨hy, hyp⟩ <;> rcases mem_put.1 hz with rfl | ⟨hz, hzp⟩
    · rfl
    · exact absurd (hz'.trans hy'.symm) (he z hz hzp)
    · exact absurd (hy'.trans hz'.symm) (he y hy hyp)
    · exact h2 y hy z hz e' hy' hz'

/-- The call of extended, and the store behind it. -/
theorem app_call (b : Nat) (Y : Nat → Prop) (L : FVs) (p s : ByteArray) (t : Int) (w : World) (h : NowR w Y (some b) L) (hp : p.size ≤ maxLen) (hn : L.length < maxLen) (cb : Nat) (cs : Array Value) (ct : TypeId) (hcb : w.heap[cb]? = some (.cells cs ct (0, 0))) (hcY : ¬ Y cb)
    (vt : BS) (vm : Int) (ve : Option Nat) (hv : fileOr L p = (vt, vm, ve)) (hlen : vt.length + s.size ≤ 1099511627776) :
    Calls Try.prog 54 #[.agg #[.string (txt vt), .int .i64 vm, .pointer (endA ve)], .string s, .int .i64 t] w fun r w' =>
      ∃ e w'', r = .returned (.agg #[.string (txt (vt ++ s.data.toList)), .int .i64 t, .pointer (some ⟨e, 0, none⟩)]) ∧ w'.heap[cb]? = some (.cells cs ct (0, 0)) ∧
        (Instr.mapUpdate 64 (.map (some b)) (.string p) (.agg #[.string (txt (vt ++ s.data.toList)), .int .i64 t, .pointer (some ⟨e, 0, none⟩)])).run Try.prog w' = .ok () w'' ∧ w''.heap[cb]? = some (.cells cs ct (0, 0)) ∧ AppAt w Y b L p.data.toList (vt ++ s.data.toList) t w'' := by
  have hM := h.isM
  obtain ⟨f, h1, h2⟩ := id h.ends
  have hbl := hM.lt
  have hcbb : cb ≠ b := fun e => hcY (e ▸ h.own b rfl)
  cases ve with
  | none =>
    refine (extended_none (txt vt) s vm t w (by rw [txt_size]; exact hlen)).mono ?_
    rw [txt_data]
    rintro r w1 ⟨e, rfl, hew, Z2, hB, hT, hZ2⟩
    obtain ⟨w2, hr, hM2, hT2⟩ := (hM.kept (hT.block b hbl id)).storeRun hn p hp (vt ++ s.data.toList) t e
    exact ⟨e, w2, rfl, hT.cells hcb id, hr, hT2.cells (hT.cells hcb id) hcbb, grow (h.own b rfl) h.lt f h1 h2 (fun _ hf => hf.elim) (fun y hy _ hye => by
      obtain ⟨_, _, _, _, hq, _⟩ := h1 y hy e hye
      have hbe := h.lt e hq.1
      omega) hT hB (fun n hn => .inr (hZ2 n hn)) hT2 hM2⟩
  | some e =>
    obtain ⟨v, hv', hvv⟩ : ∃ v, look L p.data.toList = some v ∧ v = (vt, vm, some e) := by
      unfold fileOr at hv
      cases hl : look L p.data.toList with
      | none => rw [hl] at hv; cases hv
      | some v => rw [hl] at hv; exact ⟨v, rfl, hv⟩
    subst hvv
    have hmem := look_mem hv'
    have hb0 := h1 _ hmem e rfl
    have hbx : BuiltIn w (fun n => Y n ∧ f n = e ∧ some b ≠ some n) e (txt vt).data.toList := by rw [txt_data]; exact hb0
    refine (extended_some e (fun n => Y n ∧ f n = e ∧ some b ≠ some n) (txt vt) s vm t w (fun n hn => h.lt n hn.1) hbx (by rw [txt_size]; exact hlen)).mono ?_
    rw [txt_data]
    rintro r w1 ⟨rfl, Z2, hB, hT, hZ2⟩
    obtain ⟨w2, hr, hM2, hT2⟩ := (hM.kept (hT.block b hbl (fun hn => hn.2.2 rfl))).storeRun hn p hp (vt ++ s.data.toList) t e
    exact ⟨e, w2, rfl, hT.cells hcb (fun hn => hcY hn.1), hr, hT2.cells (hT.cells hcb (fun hn => hcY hn.1)) hcbb, grow (h.own b rfl) h.lt f h1 h2 (fun _ => id) (fun y hy hne hye => hne (congrArg Prod.fst (h2 y hy _ hmem e hye rfl))) hT hB hZ2 hT2 hM2⟩

set_option maxRecDepth 100000 in
set_option maxHeartbeats 4000000 in
theorem apply_append (b : Nat) (Y : Nat → Prop) (L : FVs) (p q s : ByteArray) (t : Int) (w : World) (h : NowR w Y (some b) L) (hp : p.size ≤ maxLen) (hn : L.length < maxLen) (hlen : (textOf (strip L) p.data.toList).length + s.size ≤ 1099511627776) :
    Calls Try.prog 38 #[.map (some b), .agg #[.int .i64 1, .string p, .string q, .string s, .int .i64 t]] w fun r w' =>
      r = .returned (.tuple #[]) ∧ Applied w Y b (strip L) (1, p.data.toList, s.data.toList, t) w' := by
  obtain ⟨vt, vm, ve, hv⟩ : ∃ vt vm ve, fileOr L p = (vt, vm, ve) := ⟨_, _, _, rfl⟩
  have hto : textOf (strip L) p.data.toList = vt := by
    unfold textOf
    rw [strip_look]
    unfold fileOr at hv
    cases hl : look L p.data.toList with
    | none => rw [hl] at hv; cases hv; rfl
    | some v => rw [hl] at hv; cases hv; rfl
  rw [hto] at hlen
  have hT1 : Turned (fun _ => False) w (w.alloc (.cells #[.int .i64 1, .string p, .string q, .string s, .int .i64 t] 72)).drew := (Turned.alloc _ w _).trans (Turned.drew _ _)
  have h1 := h.kept hT1 (fun _ _ => id)
  have x1 : (w.alloc (.cells #[.int .i64 1, .string p, .string q, .string s, .int .i64 t] 72)).drew.heap[w.heap.size]? = some (.cells #[.int .i64 1, .string p, .string q, .string s, .int .i64 t] 72 (0, 0)) := World.alloc_heap_new w _
  have hcY : ¬ Y w.heap.size := fun hy => by have := h.lt _ hy; omega
  have HC := Lib.hid (app_call b Y L p s t _ h1 hp hn w.heap.size _ _ x1 hcY vt vm ve hv hlen)
  have hrun := h1.map.look p hp
  rw [hv] at hrun
  have hrun' : (Instr.lookup 64 (.map (some b)) (.string p) false).run Try.prog (w.alloc (.cells #[.int .i64 1, .string p, .string q, .string s, .int .i64 t] 72)).drew = .ok (.agg #[.string (txt vt), .int .i64 vm, .pointer (endA ve)]) (w.alloc (.cells #[.int .i64 1, .string p, .string q, .string s, .int .i64 t] 72)).drew := hrun
  have y1 : (w.alloc (.cells #[.int .i64 1, .string p, .string q, .string s, .int .i64 t] 72)).drew.cell? ⟨w.heap.size, 1, none⟩ = some (.string p) := by rw [Lib.cell_of_heap x1]; rfl
  have y3 : (w.alloc (.cells #[.int .i64 1, .string p, .string q, .string s, .int .i64 t] 72)).drew.cell? ⟨w.heap.size, 3, none⟩ = some (.string s) := by rw [Lib.cell_of_heap x1]; rfl
  have y4 : (w.alloc (.cells #[.int .i64 1, .string p, .string q, .string s, .int .i64 t] 72)).drew.cell? ⟨w.heap.size, 4, none⟩ = some (.int .i64 t) := by rw [Lib.cell_of_heap x1]; rfl
  have mixed := lays169.mixed
  have HO := Lib.hid hto
  clear h h1 x1 hrun hv hto hT1 hlen
  go_enter Try.func38, Try.ntmps38
  go_wp2
  go_region_held3 (fun w' => w'.cell? ⟨w.heap.size, 1, none⟩ = some (.string p) ∧ w'.cell? ⟨w.heap.size, 3, none⟩ = some (.string s) ∧ w'.cell? ⟨w.heap.size, 4, none⟩ = some (.int .i64 t))
    (first | exact ⟨by assumption, by assumption, by assumption⟩)
    (first | (go_at_call 54; refine (HC.out).mono ?_; rintro r w1 ⟨e, w2, rfl, g, hst, g', HA⟩; have g1 : w1.cell? ⟨w.heap.size, 1, none⟩ = some (.string p) := (by rw [Lib.cell_of_heap g]; rfl); have g3 : w1.cell? ⟨w.heap.size, 3, none⟩ = some (.string s) := (by rw [Lib.cell_of_heap g]; rfl); have g4 : w1.cell? ⟨w.heap.size, 4, none⟩ = some (.int .i64 t) := (by rw [Lib.cell_of_heap g]; rfl); have k1 : w2.cell? ⟨w.heap.size, 1, none⟩ = some (.string p) := (by rw [Lib.cell_of_heap g']; rfl); have k3 : w2.cell? ⟨w.heap.size, 3, none⟩ = some (.string s) := (by rw [Lib.cell_of_heap g']; rfl); have k4 : w2.cell? ⟨w.heap.size, 4, none⟩ = some (.int .i64 t) := (by rw [Lib.cell_of_heap g']; rfl)))
  obtain ⟨Y', L', q1, q2, q3, q4⟩ := HA
  have H1 := Lib.hid q1
  have H2 := Lib.hid q2
  clear q1 q2
  go_wp2
  go_end0
  refine ⟨rfl, Y', L', H1.out, ?_, ((Turned.alloc Y w _).trans (Turned.drew _ _)).andThen q3 (fun _ => .inl), fun n hn => (q4 n hn).elim .inl (fun h => .inr (by simp at h; omega))⟩
  rw [H2.out]
  unfold after
  simp only [Ch.kind, Ch.path, Ch.arg, Ch.time, HO.out]
  rfl

end Go.Proofs.Ytginlknlkbhgaaa
