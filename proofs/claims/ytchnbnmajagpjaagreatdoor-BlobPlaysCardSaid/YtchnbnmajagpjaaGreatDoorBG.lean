/-
  A change, done to a map of files with their ends that grow: for any map, any change; which blocks turn. No condition but that texts stay below 2^40 bytes.
  A text, put behind a file's bytes in a map: for any map; which blocks turn. No condition but that texts stay below 2^40 bytes.
  Rows of structs that lie anywhere: read, made longer by one; which blocks turn. No condition but that a row stays below 2^40 elements.
  A tree as the program keeps it; a change, done.
  A change, done to a tree: the clock, the files, what is pending.
  What would err if a file came to have so many bytes: for any tree.
-/
import Derived.Deep.RegionHeld3
import Derived.Maps.AppendAt
import Derived.KernelRfl
import Derived.Deep.RegionLaw
import Derived.IntWalk
import Derived.Test.YtchnbnmajagpjaaGreatDoorBF
namespace Go.Proofs.YtchnbnmajagpjaaGreatDoor
open Go.RowKit Go.Shelf Go.Maps

/-- The ends of the files are builders, each in blocks of its own, that are of Y, and none is the map's. -/
def EndsR (w : World) (Y : Nat → Prop) (m : Option Nat) (L : FVs) : Prop :=
  ∃ h : Nat → Nat, (∀ y ∈ L, ∀ e, y.2.2.2 = some e → BuiltIn w (fun n => Y n ∧ h n = e ∧ m ≠ some n) e y.2.1) ∧ ∀ y ∈ L, ∀ z ∈ L, ∀ e, y.2.2.2 = some e → z.2.2.2 = some e → y = z
/-- m is a map of files (or nil), all of whose blocks are of Y. -/
structure NowR (w : World) (Y : Nat → Prop) (m : Option Nat) (L : FVs) : Prop where
  own : ∀ b, m = some b → Y b
  map : MapV w m L
  lt : ∀ n, Y n → n < w.heap.size
  ends : EndsR w Y m L

theorem EndsR.kept {w w' : World} {Y X : Nat → Prop} {m : Option Nat} {L : FVs} (h : EndsR w Y m L) (hT : Turned X w w') (hd : ∀ n, Y n → X n → m = some n) : EndsR w' Y m L := by
  obtain ⟨f, h1, h2⟩ := h
  exact ⟨f, fun y hy e he => (h1 y hy e he).kept hT (fun n hn hx => hn.2.2 (hd n hn.1 hx)) (fun _ hn _ => hn), h2⟩
theorem MapV.kept {w w' : World} {m : Option Nat} {L : FVs} (h : MapV w m L) (hk : ∀ b, m = some b → w'.heap[b]? = w.heap[b]?) : MapV w' m L := by
  rcases h with h | ⟨b, rfl, h⟩
  · exact .inl h
  · exact .inr ⟨b, rfl, h.kept (hk b rfl)⟩
theorem NowR.kept {w w' : World} {Y X : Nat → Prop} {m : Option Nat} {L : FVs} (h : NowR w Y m L) (hT : Turned X w w') (hd : ∀ n, Y n → ¬ X n) : NowR w' Y m L :=
  ⟨h.own, h.map.kept (fun b hb => hT.block b (h.lt b (h.own b hb)) (hd b (h.own b hb))), fun n hn => Nat.lt_of_lt_of_le (h.lt n hn) hT.size, h.ends.kept hT (fun n hn hx => absurd hx (hd n hn))⟩
theorem NowR.isM {w : World} {Y : Nat → Prop} {b : Nat} {L : FVs} (h : NowR w Y (some b) L) : IsM w b L := by
  rcases h.map with ⟨h1, _⟩ | ⟨c, h1, h2⟩
  · cases h1
  · cases h1; exact h2
theorem NowR.made (w : World) : NowR (w.alloc (.map #[] 0)) (fun n => n = w.heap.size) (some w.heap.size) [] :=
  ⟨fun b hb => (Option.some.inj hb).symm, .inr ⟨_, rfl, IsM.made w⟩, fun n hn => by rw [hn]; simp, fun _ => 0, by simp, by simp⟩
theorem bare_end {L : FVs} {y : BS × FV} (hy : y ∈ bare L) : y.2.2.2 = none := by
  obtain ⟨z, _, rfl⟩ := List.mem_map.1 hy
  rfl
theorem NowR.bare {w : World} {b : Nat} {L : FVs} (h : IsM w b (bare L)) : NowR w (fun n => n = b) (some b) (bare L) :=
  ⟨fun c hc => (Option.some.inj hc).symm, .inr ⟨_, rfl, h⟩, fun n hn => by rw [hn]; exact h.lt, fun _ => 0, (fun y hy e he => by rw [bare_end hy] at he; cases he), (fun y hy z _ e he _ => by rw [bare_end hy] at he; cases he)⟩
theorem NowR.wider {w : World} {Y Z : Nat → Prop} {m : Option Nat} {L : FVs} (h : NowR w Y m L) (hYZ : ∀ n, Y n → Z n) (hZ : ∀ n, Z n → n < w.heap.size) : NowR w Z m L := by
  obtain ⟨h1, h2, h3, f, h4, h5⟩ := h
  exact ⟨fun b hb => hYZ b (h1 b hb), h2, hZ, f, fun y hy e he => (h4 y hy e he).kept (Turned.refl (fun _ => False) w) (fun _ _ => id) (fun n hn _ => ⟨hYZ n hn.1, hn.2⟩), h5⟩

/-- The map has turned, and its files with ends are files that there were. -/
theorem NowR.mapped {w w' : World} {Y : Nat → Prop} {b : Nat} {L L' : FVs} (h : NowR w Y (some b) L) (hT : Turned (fun n => n = b) w w') (hM : IsM w' b L') (σ : BS → BS)
    (h1 : ∀ y ∈ L', ∀ e, y.2.2.2 = some e → (σ y.1, y.2) ∈ L) (h2 : ∀ y ∈ L', ∀ z ∈ L', σ y.1 = σ z.1 → y.1 = z.1) : NowR w' Y (some b) L' := by
  have hs := hM.2
  refine ⟨h.own, .inr ⟨b, rfl, hM⟩, fun n hn => Nat.lt_of_lt_of_le (h.lt n hn) hT.size, ?_⟩
  obtain ⟨f, h3, h4⟩ := h.ends.kept hT (fun n _ hx => by rw [hx])
  refine ⟨f, fun y hy e he => h3 _ (h1 y hy e he) e he, fun y hy z hz e he he' => ?_⟩
  have := h4 _ (h1 y hy e he) _ (h1 z hz e he') e he he'
  exact hs.inj hy hz (h2 y hy z hz (congrArg Prod.fst this))

/-- What a change leaves. -/
def Applied (w : World) (Y : Nat → Prop) (b : Nat) (l : Fs) (c : Ch) (w' : World) : Prop :=
  ∃ Y' L', NowR w' Y' (some b) L' ∧ strip L' = after l c ∧ Turned Y w w' ∧ ∀ n, Y' n → Y n ∨ w.heap.size ≤ n

theorem turned_map {w w' : World} {b : Nat} (h : w.mapTurned w' b) : Turned (fun n => n = b) w w' := turned_grown h.grown (fun _ hg => (Option.some.inj hg).symm)

set_option maxRecDepth 100000 in
set_option maxHeartbeats 1000000 in
theorem apply_write (b : Nat) (Y : Nat → Prop) (L : FVs) (p q s : ByteArray) (t : Int) (w : World) (h : NowR w Y (some b) L) (hp : p.size ≤ maxLen) (hn : L.length < maxLen) :
    Calls Tryz.prog 41 #[.map (some b), .agg #[.int .i64 0, .string p, .string q, .string s, .int .i64 t]] w fun r w' =>
      r = .returned (.tuple #[]) ∧ Applied w Y b (strip L) (0, p.data.toList, s.data.toList, t) w' := by
  have hM := h.isM
  have hM1 : IsM (w.alloc (.cells #[.int .i64 0, .string p, .string q, .string s, .int .i64 t] 96)) b L := hM.kept (Below.heap_alloc _ _ _ hM.lt)
  have HN := Lib.hid h
  clear h hM
  go_enter Tryz.func41, Tryz.ntmps41
  go_wp2_with (first
    | (at_mapUpdate; refine wpList_store_m _ rfl _ _ _ rfl b L rfl hM1 hn p hp (s.data.toList, t, none) rfl rfl ?_; intro w2 hM2 hturn; go_frame)
    | go_in)
  go_end0
  have hT : Turned (fun n => n = b) w w2 := (Turned.alloc _ w _).trans (turned_map hturn)
  refine ⟨rfl, Y, _, HN.out.mapped hT hM2 id (fun y hy e he => ?_) (fun _ _ _ _ => id), ?_, hT.wider (fun n hn => by rw [hn]; exact HN.out.own b rfl), fun _ => .inl⟩
  · rcases mem_put.1 hy with rfl | hy
    · cases he
    · exact hy.1
  · rw [strip_put]; rfl

set_option maxRecDepth 100000 in
set_option maxHeartbeats 1000000 in
theorem apply_remove (b : Nat) (Y : Nat → Prop) (L : FVs) (p q s : ByteArray) (t : Int) (w : World) (h : NowR w Y (some b) L) (hp : p.size ≤ maxLen) (x : BS × Int) :
    Calls Tryz.prog 41 #[.map (some b), .agg #[.int .i64 2, .string p, .string q, .string s, .int .i64 t]] w fun r w' =>
      r = .returned (.tuple #[]) ∧ Applied w Y b (strip L) (2, p.data.toList, x) w' := by
  have hM := h.isM
  have hM1 : IsM (w.alloc (.cells #[.int .i64 2, .string p, .string q, .string s, .int .i64 t] 96)) b L := hM.kept (Below.heap_alloc _ _ _ hM.lt)
  have HN := Lib.hid h
  clear h hM
  go_enter Tryz.func41, Tryz.ntmps41
  go_wp2_with (first
    | (at_delete; refine wpList_delete_m _ rfl _ _ rfl b L rfl hM1 p hp rfl ?_; intro w2 hM2 hturn; go_frame)
    | go_in)
  go_end0
  have hT : Turned (fun n => n = b) w w2 := (Turned.alloc _ w _).trans (turned_map hturn)
  refine ⟨rfl, Y, _, HN.out.mapped hT hM2 id (fun y hy e he => (mem_drp.1 hy).1) (fun _ _ _ _ => id), ?_, hT.wider (fun n hn => by rw [hn]; exact HN.out.own b rfl), fun _ => .inl⟩
  rw [strip_drp]; rfl

theorem fileOr_some {L : FVs} {p : ByteArray} {v : FV} (h : look L p.data.toList = some v) : fileOr L p = v := by unfold fileOr; rw [h]; rfl

set_option maxRecDepth 100000 in
set_option maxHeartbeats 1000000 in
theorem apply_rename (b : Nat) (Y : Nat → Prop) (L : FVs) (p q s : ByteArray) (t : Int) (w : World) (h : NowR w Y (some b) L) (hp : p.size ≤ maxLen) (hq : q.size ≤ maxLen) (hn : L.length < maxLen) (hl : (look L p.data.toList).isSome = true) :
    Calls Tryz.prog 41 #[.map (some b), .agg #[.int .i64 3, .string p, .string q, .string s, .int .i64 t]] w fun r w' =>
      r = .returned (.tuple #[]) ∧ Applied w Y b (strip L) (3, p.data.toList, q.data.toList, t) w' := by
  obtain ⟨v, hv⟩ := Option.isSome_iff_exists.1 hl
  obtain ⟨vt, vm, ve⟩ := v
  have hM := h.isM
  have hM1 : IsM (w.alloc (.cells #[.int .i64 3, .string p, .string q, .string s, .int .i64 t] 96)) b L := hM.kept (Below.heap_alloc _ _ _ hM.lt)
  have hrun := MapV.look (.inr ⟨b, rfl, hM1⟩) p hp
  rw [fileOr_some hv] at hrun
  have hrun' : (Instr.lookup 89 (.map (some b)) (.string p) false).run Tryz.prog (w.alloc (.cells #[.int .i64 3, .string p, .string q, .string s, .int .i64 t] 96)) = .ok (.agg #[.string (txt vt), .int .i64 vm, .pointer (endA ve)]) (w.alloc (.cells #[.int .i64 3, .string p, .string q, .string s, .int .i64 t] 96)) := hrun
  have hM2 : IsM ((w.alloc (.cells #[.int .i64 3, .string p, .string q, .string s, .int .i64 t] 96)).alloc (.cells #[.string (txt vt), .int .i64 vm, .pointer (endA ve)] 120)) b L := hM1.kept (Below.heap_alloc _ _ _ hM1.lt)
  have x1 : ((w.alloc (.cells #[.int .i64 3, .string p, .string q, .string s, .int .i64 t] 96)).alloc (.cells #[.string (txt vt), .int .i64 vm, .pointer (endA ve)] 120)).heap[w.heap.size]? = some (.cells #[.int .i64 3, .string p, .string q, .string s, .int .i64 t] 96 (0, 0)) := (Below.heap_alloc _ _ _ (by simp)).trans (World.alloc_heap_new w _)
  have x2 : ((w.alloc (.cells #[.int .i64 3, .string p, .string q, .string s, .int .i64 t] 96)).alloc (.cells #[.string (txt vt), .int .i64 vm, .pointer (endA ve)] 120)).heap[w.heap.size + 1]? = some (.cells #[.string (txt vt), .int .i64 vm, .pointer (endA ve)] 120 (0, 0)) := by
    have := World.alloc_heap_new (w.alloc (.cells #[.int .i64 3, .string p, .string q, .string s, .int .i64 t] 96)) (.cells #[.string (txt vt), .int .i64 vm, .pointer (endA ve)] 120)
    rwa [World.size_alloc] at this
  have hbl := hM.lt
  have HN := Lib.hid h
  have HV := Lib.hid hv
  have hnd : (drp p.data.toList L).length < maxLen := Nat.lt_of_le_of_lt (List.length_filter_le _ _) hn
  clear h hM hrun hl hv hM1
  go_enter Tryz.func41, Tryz.ntmps41
  go_wp2_with (at_delete; refine wpList_delete_m _ rfl _ _ rfl b L rfl hM2 p hp rfl ?_)
  intro w3 hM3 hturn
  have x3 := (turned_map hturn).cells x1 (by omega)
  have x4 := (turned_map hturn).cells x2 (by omega)
  have k0 : w3.cell? ⟨w.heap.size, 0, none⟩ = some (.int .i64 3) := by rw [Lib.cell_of_heap x3]; rfl
  have k2 : w3.cell? ⟨w.heap.size, 2, none⟩ = some (.string q) := by rw [Lib.cell_of_heap x3]; rfl
  have j0 : w3.cell? ⟨w.heap.size + 1, 0, none⟩ = some (.string (txt vt)) := by rw [Lib.cell_of_heap x4]; rfl
  have j1 : w3.cell? ⟨w.heap.size + 1, 1, none⟩ = some (.int .i64 vm) := by rw [Lib.cell_of_heap x4]; rfl
  have j2 : w3.cell? ⟨w.heap.size + 1, 2, none⟩ = some (.pointer (endA ve)) := by rw [Lib.cell_of_heap x4]; rfl
  have HT : Hid (Turned (fun n => n = b) w w3) := ((Turned.alloc _ w _).trans (Turned.alloc _ _ _)).trans (turned_map hturn)
  clear x1 x2 x3 x4 hturn hM2 hrun'
  go_wp2_with (first
    | (at_mapUpdate; refine wpList_store_m _ rfl _ _ _ rfl b _ rfl hM3 hnd q hq (vt, vm, ve) rfl rfl ?_; intro w4 hM4 hturn; go_frame)
    | go_in)
  go_end0
  have hT : Turned (fun n => n = b) w w4 := HT.out.trans (turned_map hturn)
  have hL : Srt L := HN.out.isM.2
  refine ⟨rfl, Y, _, HN.out.mapped hT hM4 (fun k => if k = q.data.toList then p.data.toList else k) (fun y hy e he => ?_) (fun y hy z hz => ?_), ?_, hT.wider (fun n hn => by rw [hn]; exact HN.out.own b rfl), fun _ => .inl⟩
  · rcases mem_put.1 hy with rfl | hy
    · rw [if_pos rfl]; exact look_mem HV.out
    · rw [if_neg hy.2]; exact (mem_drp.1 hy.1).1
  · show (if _ then _ else _) = (if _ then _ else _) → _
    have key : ∀ u ∈ put (q.data.toList, vt, vm, ve) (drp p.data.toList L), u.1 ≠ q.data.toList → u.1 ≠ p.data.toList := by
      intro u hu hne
      rcases mem_put.1 hu with rfl | hu
      · exact absurd rfl hne
      · exact (mem_drp.1 hu.1).2
    by_cases hyq : y.1 = q.data.toList <;> by_cases hzq : z.1 = q.data.toList
    · intro _; rw [hyq, hzq]
    · rw [if_pos hyq, if_neg hzq]; exact fun e => absurd e.symm (key z hz hzq)
    · rw [if_neg hyq, if_pos hzq]; exact fun e => absurd e (key y hy hyq)
    · rw [if_neg hyq, if_neg hzq]; exact id
  · rw [strip_put, strip_drp]
    unfold after
    have : look (strip L) p.data.toList = some (vt, vm) := by rw [strip_look, HV.out]; rfl
    simp only [Ch.kind, Ch.path, Ch.arg, this]
    rfl

end Go.Proofs.YtchnbnmajagpjaaGreatDoor

namespace Go.Proofs.YtchnbnmajagpjaaGreatDoor
open Go.RowKit Go.Shelf Go.Maps

theorem IsM.storeRun {w : World} {b : Nat} {L : FVs} (h : IsM w b L) (hn : L.length < maxLen) (s : ByteArray) (hs : s.size ≤ maxLen) (tx : BS) (tm : Int) (e : Nat) :
    ∃ w', (Instr.mapUpdate 89 (.map (some b)) (.string s) (.agg #[.string (txt tx), .int .i64 tm, .pointer (some ⟨e, 0, none⟩)])).run Tryz.prog w = .ok () w' ∧ IsM w' b (put (s.data.toList, tx, tm, some e) L) ∧ Turned (fun n => n = b) w w' := by
  obtain ⟨w', hr, h1, h2⟩ := h.1.store lawK Tryz.underlying89 hn (hkeyS hs) (fileR_mk (tx, tm, some e))
  rw [dat_put] at h1
  exact ⟨w', hr, IsM.of h1 (h.2.put _), turned_map h2⟩

/-- How it stands behind extended and the store. -/
def AppAt (w : World) (Y : Nat → Prop) (b : Nat) (L : FVs) (p : BS) (ts : BS) (t : Int) (w' : World) : Prop :=
  ∃ Y' L', NowR w' Y' (some b) L' ∧ strip L' = put (p, ts, t) (strip L) ∧ Turned Y w w' ∧ ∀ n, Y' n → Y n ∨ w.heap.size ≤ n

/-- One file's end, new or written on; all the others as they were. -/
theorem grow {w w1 w2 : World} {Y Z Z2 : Nat → Prop} {b : Nat} {L : FVs} {p ts : BS} {t : Int} {e : Nat} (hY : Y b) (hlt : ∀ n, Y n → n < w.heap.size) (f : Nat → Nat)
    (h1 : ∀ y ∈ L, ∀ e, y.2.2.2 = some e → BuiltIn w (fun n => Y n ∧ f n = e ∧ some b ≠ some n) e y.2.1) (h2 : ∀ y ∈ L, ∀ z ∈ L, ∀ e, y.2.2.2 = some e → z.2.2.2 = some e → y = z)
    (hZ : ∀ n, Z n → Y n ∧ f n = e ∧ some b ≠ some n) (he : ∀ y ∈ L, y.1 ≠ p → y.2.2.2 ≠ some e)
    (hT : Turned Z w w1) (hB : BuiltIn w1 Z2 e ts) (hZ2 : ∀ n, Z2 n → Z n ∨ w.heap.size ≤ n) (hT2 : Turned (fun n => n = b) w1 w2) (hM : IsM w2 b (put (p, ts, t, some e) L)) : AppAt w Y b L p ts t w2 := by
  have hbl := hlt b hY
  have hTT : Turned (fun n => Z n ∨ n = b) w w2 := (hT.wider fun _ h => .inl h).trans (hT2.wider fun _ h => .inr h)
  have hs1 := hT.size
  have hs2 := hT2.size
  refine ⟨fun n => Y n ∨ (w.heap.size ≤ n ∧ n < w2.heap.size), _, ⟨fun c hc => by cases hc; exact .inl hY, .inr ⟨b, rfl, hM⟩, ?_, fun n => if w.heap.size ≤ n then e else f n, ?_, ?_⟩, strip_put _ _ _,
    hTT.wider (fun n hn => hn.elim (fun h => (hZ n h).1) (fun h => by rw [h]; exact hY)), fun n hn => hn.elim .inl (fun h => .inr h.1)⟩
  · rintro n (hn | hn)
    · have := hlt n hn; omega
    · exact hn.2
  · intro y hy e' he'
    rcases mem_put.1 hy with rfl | ⟨hy, hne⟩
    · obtain rfl : e = e' := Option.some.inj he'
      refine hB.kept hT2 (fun n hn hx => ?_) (fun n hn hnl => ?_)
      · subst hx
        rcases hZ2 _ hn with h | h
        · exact (hZ _ h).2.2 rfl
        · omega
      · rcases hZ2 n hn with h | h
        · obtain ⟨q1, q2, q3⟩ := hZ n h
          have := hlt n q1
          exact ⟨.inl q1, (if_neg (by omega)).trans q2, q3⟩
        · exact ⟨.inr ⟨h, by omega⟩, if_pos h, fun hb => by cases hb; omega⟩
    · have hee : e' ≠ e := fun hx => he y hy hne (by rw [← hx]; exact he')
      refine (h1 y hy e' he').kept hTT (fun n hn hx => ?_) (fun n hn hnl => ?_)
      · rcases hx with hx | hx
        · exact hee (hn.2.1.symm.trans (hZ n hx).2.1)
        · exact hn.2.2 (by rw [hx])
      · exact ⟨.inl hn.1, (if_neg (by omega)).trans hn.2.1, hn.2.2⟩
  · intro y hy z hz e' hy' hz'
    rcases mem_put.1 hy with rfl | ⟨hy, hyp⟩ <;> rcases mem_put.1 hz with rfl | ⟨hz, hzp⟩
    · rfl
    · exact absurd (hz'.trans hy'.symm) (he z hz hzp)
    · exact absurd (hy'.trans hz'.symm) (he y hy hyp)
    · exact h2 y hy z hz e' hy' hz'

/-- The call of extended, and the store behind it. -/
theorem app_call (b : Nat) (Y : Nat → Prop) (L : FVs) (p s : ByteArray) (t : Int) (w : World) (h : NowR w Y (some b) L) (hp : p.size ≤ maxLen) (hn : L.length < maxLen) (cb : Nat) (cs : Array Value) (ct : TypeId) (hcb : w.heap[cb]? = some (.cells cs ct (0, 0))) (hcY : ¬ Y cb)
    (vt : BS) (vm : Int) (ve : Option Nat) (hv : fileOr L p = (vt, vm, ve)) (hlen : vt.length + s.size ≤ 1099511627776) :
    Calls Tryz.prog 65 #[.agg #[.string (txt vt), .int .i64 vm, .pointer (endA ve)], .string s, .int .i64 t] w fun r w' =>
      ∃ e w'', r = .returned (.agg #[.string (txt (vt ++ s.data.toList)), .int .i64 t, .pointer (some ⟨e, 0, none⟩)]) ∧ w'.heap[cb]? = some (.cells cs ct (0, 0)) ∧
        (Instr.mapUpdate 89 (.map (some b)) (.string p) (.agg #[.string (txt (vt ++ s.data.toList)), .int .i64 t, .pointer (some ⟨e, 0, none⟩)])).run Tryz.prog w' = .ok () w'' ∧ w''.heap[cb]? = some (.cells cs ct (0, 0)) ∧ AppAt w Y b L p.data.toList (vt ++ s.data.toList) t w'' := by
  have hM := h.isM
  obtain ⟨f, h1, h2⟩ := id h.ends
  have hbl := hM.lt
  have hcbb : cb ≠ b := fun e => hcY (e ▸ h.own b rfl)
  cases ve with
  | none =>
    refine (extended_none (txt vt) s vm t w (by rw [txt_size]; exact hlen)).mono ?_
    rw [txt_data]
    rintro r w1 ⟨e, rfl, hew, Z2, hB, hT, hZ2⟩
    obtain ⟨w2, hr, hM2, hT2⟩ := (hM.kept (hT.block b hbl id)).storeRun hn p hp (vt ++ s.data.toList) t e
    exact ⟨e, w2, rfl, hT.cells hcb id, hr, hT2.cells (hT.cells hcb id) hcbb, grow (h.own b rfl) h.lt f h1 h2 (fun _ hf => hf.elim) (fun y hy _ hye => by
      obtain ⟨_, _, _, _, hq, _⟩ := h1 y hy e hye
      have hbe := h.lt e hq.1
      omega) hT hB (fun n hn => .inr (hZ2 n hn)) hT2 hM2⟩
  | some e =>
    obtain ⟨v, hv', hvv⟩ : ∃ v, look L p.data.toList = some v ∧ v = (vt, vm, some e) := by
      unfold fileOr at hv
      cases hl : look L p.data.toList with
      | none => rw [hl] at hv; cases hv
      | some v => rw [hl] at hv; exact ⟨v, rfl, hv⟩
    subst hvv
    have hmem := look_mem hv'
    have hb0 := h1 _ hmem e rfl
    have hbx : BuiltIn w (fun n => Y n ∧ f n = e ∧ some b ≠ some n) e (txt vt).data.toList := by rw [txt_data]; exact hb0
    refine (extended_some e (fun n => Y n ∧ f n = e ∧ some b ≠ some n) (txt vt) s vm t w (fun n hn => h.lt n hn.1) hbx (by rw [txt_size]; exact hlen)).mono ?_
    rw [txt_data]
    rintro r w1 ⟨rfl, Z2, hB, hT, hZ2⟩
    obtain ⟨w2, hr, hM2, hT2⟩ := (hM.kept (hT.block b hbl (fun hn => hn.2.2 rfl))).storeRun hn p hp (vt ++ s.data.toList) t e
    exact ⟨e, w2, rfl, hT.cells hcb (fun hn => hcY hn.1), hr, hT2.cells (hT.cells hcb (fun hn => hcY hn.1)) hcbb, grow (h.own b rfl) h.lt f h1 h2 (fun _ => id) (fun y hy hne hye => hne (congrArg Prod.fst (h2 y hy _ hmem e hye rfl))) hT hB hZ2 hT2 hM2⟩

set_option maxRecDepth 100000 in
set_option maxHeartbeats 4000000 in
theorem apply_append (b : Nat) (Y : Nat → Prop) (L : FVs) (p q s : ByteArray) (t : Int) (w : World) (h : NowR w Y (some b) L) (hp : p.size ≤ maxLen) (hn : L.length < maxLen) (hlen : (textOf (strip L) p.data.toList).length + s.size ≤ 1099511627776) :
    Calls Tryz.prog 41 #[.map (some b), .agg #[.int .i64 1, .string p, .string q, .string s, .int .i64 t]] w fun r w' =>
      r = .returned (.tuple #[]) ∧ Applied w Y b (strip L) (1, p.data.toList, s.data.toList, t) w' := by
  obtain ⟨vt, vm, ve, hv⟩ : ∃ vt vm ve, fileOr L p = (vt, vm, ve) := ⟨_, _, _, rfl⟩
  have hto : textOf (strip L) p.data.toList = vt := by
    unfold textOf
    rw [strip_look]
    unfold fileOr at hv
    cases hl : look L p.data.toList with
    | none => rw [hl] at hv; cases hv; rfl
    | some v => rw [hl] at hv; cases hv; rfl
  rw [hto] at hlen
  have hT1 : Turned (fun _ => False) w (w.alloc (.cells #[.int .i64 1, .string p, .string q, .string s, .int .i64 t] 96)).drew := (Turned.alloc _ w _).trans (Turned.drew _ _)
  have h1 := h.kept hT1 (fun _ _ => id)
  have x1 : (w.alloc (.cells #[.int .i64 1, .string p, .string q, .string s, .int .i64 t] 96)).drew.heap[w.heap.size]? = some (.cells #[.int .i64 1, .string p, .string q, .string s, .int .i64 t] 96 (0, 0)) := World.alloc_heap_new w _
  have hcY : ¬ Y w.heap.size := fun hy => by have := h.lt _ hy; omega
  have HC := Lib.hid (app_call b Y L p s t _ h1 hp hn w.heap.size _ _ x1 hcY vt vm ve hv hlen)
  have hrun := h1.map.look p hp
  rw [hv] at hrun
  have hrun' : (Instr.lookup 89 (.map (some b)) (.string p) false).run Tryz.prog (w.alloc (.cells #[.int .i64 1, .string p, .string q, .string s, .int .i64 t] 96)).drew = .ok (.agg #[.string (txt vt), .int .i64 vm, .pointer (endA ve)]) (w.alloc (.cells #[.int .i64 1, .string p, .string q, .string s, .int .i64 t] 96)).drew := hrun
  have y1 : (w.alloc (.cells #[.int .i64 1, .string p, .string q, .string s, .int .i64 t] 96)).drew.cell? ⟨w.heap.size, 1, none⟩ = some (.string p) := by rw [Lib.cell_of_heap x1]; rfl
  have y3 : (w.alloc (.cells #[.int .i64 1, .string p, .string q, .string s, .int .i64 t] 96)).drew.cell? ⟨w.heap.size, 3, none⟩ = some (.string s) := by rw [Lib.cell_of_heap x1]; rfl
  have y4 : (w.alloc (.cells #[.int .i64 1, .string p, .string q, .string s, .int .i64 t] 96)).drew.cell? ⟨w.heap.size, 4, none⟩ = some (.int .i64 t) := by rw [Lib.cell_of_heap x1]; rfl
  have mixed := lays169.mixed
  have HO := Lib.hid hto
  clear h h1 x1 hrun hv hto hT1 hlen
  go_enter Tryz.func41, Tryz.ntmps41
  go_wp2
  go_region_held3 (fun w' => w'.cell? ⟨w.heap.size, 1, none⟩ = some (.string p) ∧ w'.cell? ⟨w.heap.size, 3, none⟩ = some (.string s) ∧ w'.cell? ⟨w.heap.size, 4, none⟩ = some (.int .i64 t))
    (first | exact ⟨by assumption, by assumption, by assumption⟩)
    (first | (go_at_call 65; refine (HC.out).mono ?_; rintro r w1 ⟨e, w2, rfl, g, hst, g', HA⟩; have g1 : w1.cell? ⟨w.heap.size, 1, none⟩ = some (.string p) := (by rw [Lib.cell_of_heap g]; rfl); have g3 : w1.cell? ⟨w.heap.size, 3, none⟩ = some (.string s) := (by rw [Lib.cell_of_heap g]; rfl); have g4 : w1.cell? ⟨w.heap.size, 4, none⟩ = some (.int .i64 t) := (by rw [Lib.cell_of_heap g]; rfl); have k1 : w2.cell? ⟨w.heap.size, 1, none⟩ = some (.string p) := (by rw [Lib.cell_of_heap g']; rfl); have k3 : w2.cell? ⟨w.heap.size, 3, none⟩ = some (.string s) := (by rw [Lib.cell_of_heap g']; rfl); have k4 : w2.cell? ⟨w.heap.size, 4, none⟩ = some (.int .i64 t) := (by rw [Lib.cell_of_heap g']; rfl)))
  obtain ⟨Y', L', q1, q2, q3, q4⟩ := HA
  have H1 := Lib.hid q1
  have H2 := Lib.hid q2
  clear q1 q2
  go_wp2
  go_end0
  refine ⟨rfl, Y', L', H1.out, ?_, ((Turned.alloc Y w _).trans (Turned.drew _ _)).andThen q3 (fun _ => .inl), fun n hn => (q4 n hn).elim .inl (fun h => .inr (by simp at h; omega))⟩
  rw [H2.out]
  unfold after
  simp only [Ch.kind, Ch.path, Ch.arg, Ch.time, HO.out]
  rfl

end Go.Proofs.YtchnbnmajagpjaaGreatDoor

namespace Go.Proofs.YtchnbnmajagpjaaGreatDoor
open Go.RowKit Go.Shelf

/-- What is asked of a slice's type t with elements of type E, of k cells. -/
structure RowT (t E : TypeId) (k : Nat) : Prop where
  under : Tryz.prog.underlying t = some (.slice E)
  pos : 0 < k
  info : ∃ i z bytes, Tryz.prog.info? E = some i ∧ i.zero = some z ∧ i.size = k ∧ i.bytes = bytes ∧ z.cells.size = k ∧ bytes ≤ 64
theorem rowT_of {t E : TypeId} {k : Nat} (z : Value) (bytes : Nat) (hu : Tryz.prog.underlying t = some (.slice E)) (hi : (Tryz.prog.info? E).map (fun i => (i.zero, i.size, i.bytes)) = some (some z, k, bytes)) (hk : 0 < k) (hz : z.cells.size = k) (hb : bytes ≤ 64) : RowT t E k := by
  obtain ⟨i, h1, h2, h3, h4⟩ := info_parts hi
  exact ⟨hu, hk, i, z, bytes, h1, h2, h3, h4, hz, hb⟩
theorem rowCh : RowT 90 96 5 :=
  rowT_of (.agg #[.int .i64 0, .string ⟨#[]⟩, .string ⟨#[]⟩, .string ⟨#[]⟩, .int .i64 0]) 64 Tryz.underlying90 (by kernel_rfl) (by decide) rfl (by decide)

variable {α : Type}
/-- The value is a row of the texts' elements, in a block of P. -/
def RowR (E : TypeId) (k : Nat) (enc : α → List Value) (w : World) (P : Nat → Prop) (v : Value) (l : List α) : Prop :=
  w.ownsRow 0 E k v l.length (l.flatMap enc) ∧ ∀ g, v.ownBlock = some g → P g
theorem RowR.nil (E : TypeId) (k : Nat) (enc : α → List Value) (w : World) (P : Nat → Prop) : RowR E k enc w P (.slice none 0 0) [] := ⟨⟨by simp, .inl ⟨rfl, rfl⟩⟩, by simp [Value.ownBlock]⟩
theorem RowR.kept {E : TypeId} {k : Nat} {enc : α → List Value} {w w' : World} {P X : Nat → Prop} {v : Value} {l : List α} (h : RowR E k enc w P v l) (hT : Turned X w w') (hd : ∀ n, P n → ¬ X n) : RowR E k enc w' P v l :=
  ⟨hT.ownsRow h.1 (fun r hr => hd r (h.2 r hr)), h.2⟩
theorem RowR.wider {E : TypeId} {k : Nat} {enc : α → List Value} {w : World} {P Q : Nat → Prop} {v : Value} {l : List α} (h : RowR E k enc w P v l) (hPQ : ∀ n, P n → Q n) : RowR E k enc w Q v l := ⟨h.1, fun g hg => hPQ g (h.2 g hg)⟩
theorem RowR.lt {E : TypeId} {k : Nat} {enc : α → List Value} {w : World} {P : Nat → Prop} {v : Value} {l : List α} (h : RowR E k enc w P v l) : ∀ g, v.ownBlock = some g → g < w.heap.size := fun g hg => by
  rcases h.1.2 with ⟨rfl, _⟩ | ⟨g', cap, cur, rfl, _, hgg, _⟩
  · simp [Value.ownBlock] at hg
  · simp [Value.ownBlock] at hg
    subst hg
    exact (Array.getElem?_eq_some_iff.1 hgg).1
/-- .. in blocks that are there. -/
theorem RowR.tight {E : TypeId} {k : Nat} {enc : α → List Value} {w : World} {P : Nat → Prop} {v : Value} {l : List α} (h : RowR E k enc w P v l) : RowR E k enc w (fun n => P n ∧ n < w.heap.size) v l := ⟨h.1, fun g hg => ⟨h.2 g hg, h.lt g hg⟩⟩
theorem flatMap_get {enc : α → List Value} {k : Nat} (hk : ∀ x, (enc x).length = k) : ∀ (l : List α) (i j : Nat) (x : α), l[i]? = some x → j < k → (l.flatMap enc)[i * k + j]? = (enc x)[j]?
  | [], i, j, x, h, _ => by simp at h
  | y :: r, 0, j, x, h, hj => by
    simp at h; subst h
    rw [List.flatMap_cons, List.getElem?_append_left (by rw [hk]; omega)]; simp
  | y :: r, i + 1, j, x, h, hj => by
    rw [List.flatMap_cons, List.getElem?_append_right (by rw [hk, Nat.add_mul]; omega), hk, ← flatMap_get hk r i j x (by simpa using h) hj]
    congr 1
    rw [Nat.add_mul]; omega
/-- The shape of the slice, and its elements' cells. -/
theorem RowR.shape {E : TypeId} {k : Nat} {enc : α → List Value} {w : World} {P : Nat → Prop} {v : Value} {l : List α} (h : RowR E k enc w P v l) (hk : ∀ x, (enc x).length = k) :
    ∃ o c, v = .slice o l.length c ∧ l.length ≤ c ∧ c ≤ maxLen ∧ (∀ a, o = some a → ∃ g, a = ⟨g, 0, none⟩ ∧ P g) ∧ ∀ i x, l[i]? = some x → ∃ g, o = some ⟨g, 0, none⟩ ∧ ∀ j, j < k → w.cell? ⟨g, i * k + j, none⟩ = (enc x)[j]? := by
  rcases h.1.2 with ⟨rfl, h0⟩ | ⟨g, cap, cur, rfl, hb, hg, h1, h2, h3, h4⟩
  · have : l = [] := List.eq_nil_of_length_eq_zero h0
    subst this
    exact ⟨none, 0, rfl, Nat.le_refl _, by simp [maxLen], by simp, by simp⟩
  · refine ⟨some ⟨g, 0, none⟩, cap, rfl, h1, h2, fun a ha => ⟨g, (Option.some.inj ha).symm, h.2 g (by simp [Value.ownBlock])⟩, fun i x hx => ⟨g, rfl, fun j hj => ?_⟩⟩
    have hi : i < l.length := (List.getElem?_eq_some_iff.1 hx).1
    rw [← flatMap_get hk l i j x hx hj, ← h4, List.getElem?_take_of_lt ?_]
    · simp [World.cell?, hg]
    · calc i * k + j < (i + 1) * k := by rw [Nat.add_mul]; omega
        _ ≤ l.length * k := Nat.mul_le_mul_right _ hi

/-- One element more. -/
theorem RowR.push {t E : TypeId} {k : Nat} {enc : α → List Value} {w : World} {P : Nat → Prop} {v : Value} {l : List α} (hT : RowT t E k) (h : RowR E k enc w P v l) (x : α) (hk : (enc x).length = k) (h1 : ∀ u ∈ enc x, u.oneCell' = true) (nb c : Nat) (fz : Nat × Nat)
    (hnb : w.heap[nb]? = some (.cells (enc x).toArray E fz)) (hl : l.length < 1099511627776) (ty : TypeId) :
    ∃ v' w', (Builtin.append_ #[t, t] ty #[v, .slice (some ⟨nb, 0, none⟩) 1 c]).run Tryz.prog w = .ok v' w' ∧ RowR E k enc w' (fun n => P n ∨ n = w.heap.size) v' (l ++ [x]) ∧ Turned P w w' ∧ ∃ o c', v' = .slice o (l.length + 1) c' := by
  obtain ⟨i, z, bytes, hi, hz, hs, hby, hzs, hb64⟩ := hT.info
  obtain ⟨v', w', hr, h2, h3, h4, h5⟩ := run_append_own_at (P := Tryz.prog) (w := w) 0 t ty E i z k bytes hT.under hi hz hs hby hzs hT.pos v l.length _ h.1 ⟨nb, 0, none⟩ 1 c (enc x) (by rw [hk, Nat.one_mul]) (fun j u hu => by
      rw [Addr.add_lit, Nat.zero_add]
      rw [Lib.cell_of_heap hnb]
      simpa using hu) h1 (by unfold maxLen; omega) (by
        calc (l.length + 1) * bytes ≤ 1099511627776 * 64 := Nat.mul_le_mul (by omega) hb64
          _ ≤ 140737488355328 := by omega) (Nat.zero_le _)
  refine ⟨v', w', hr, ⟨by rw [List.length_append, List.flatMap_append]; simpa using h2, fun g hg => ?_⟩, turned_grown h3 h.2, ?_⟩
  · rcases h5 with h5 | h5
    · exact .inl (h.2 g (h5 ▸ hg))
    · exact .inr (Option.some.inj (hg.symm.trans h5))
  · rcases h2.2 with ⟨rfl, h0⟩ | ⟨g, cap, cur, rfl, _⟩
    · omega
    · exact ⟨_, _, rfl⟩

end Go.Proofs.YtchnbnmajagpjaaGreatDoor

namespace Go.Proofs.YtchnbnmajagpjaaGreatDoor
open Go.RowKit Go.Shelf Go.Maps

def toOf (c : Ch) : BS := if c.kind = 3 then c.arg else []
def txtOf (c : Ch) : BS := if c.kind ≤ 1 then c.arg else []
def chCells (c : Ch) : List Value := [.int .i64 c.kind, .string (txt c.path), .string (txt (toOf c)), .string (txt (txtOf c)), .int .i64 c.time]

/-- What a change asks of the files that it is done to. -/
def Fits (l : Fs) (c : Ch) : Prop := c.kind ≤ 3 ∧ c.path.length ≤ 1073741824 ∧ c.arg.length ≤ 1073741824 ∧ (c.kind = 1 → (textOf l c.path).length + c.arg.length ≤ 1073741824) ∧ (c.kind = 3 → (look l c.path).isSome = true)

theorem apply_any (b : Nat) (Y : Nat → Prop) (L : FVs) (c : Ch) (w : World) (h : NowR w Y (some b) L) (hn : L.length < 1073741824) (hf : Fits (strip L) c) :
    Calls Tryz.prog 41 #[.map (some b), .agg (chCells c).toArray] w fun r w' => r = .returned (.tuple #[]) ∧ Applied w Y b (strip L) c w' := by
  obtain ⟨k, p, a, t⟩ := c
  obtain ⟨h1, h2, h3, h4, h5⟩ := hf
  simp only [Ch.kind, Ch.path, Ch.arg] at h1 h2 h3 h4 h5
  have hp : (txt p).size ≤ maxLen := by rw [txt_size]; unfold maxLen; omega
  have ha : (txt a).size ≤ maxLen := by rw [txt_size]; unfold maxLen; omega
  have hn' : L.length < maxLen := by unfold maxLen; omega
  rcases (show k = 0 ∨ k = 1 ∨ k = 2 ∨ k = 3 by omega) with rfl | rfl | rfl | rfl
  · have := apply_write b Y L (txt p) (txt []) (txt a) t w h hp hn'
    rw [txt_data, txt_data] at this
    exact this
  · have := apply_append b Y L (txt p) (txt []) (txt a) t w h hp hn' (by rw [txt_data, txt_size]; have := h4 rfl; omega)
    rw [txt_data, txt_data] at this
    exact this
  · have := apply_remove b Y L (txt p) (txt []) (txt []) t w h hp (a, t)
    rw [txt_data] at this
    exact this
  · have hl := h5 rfl
    rw [strip_look] at hl
    have := apply_rename b Y L (txt p) (txt a) (txt []) t w h hp ha hn' (by rw [txt_data]; cases hx : look L p <;> simp_all)
    rw [txt_data, txt_data] at this
    exact this

def Disj (X Y : Nat → Prop) : Prop := ∀ n, X n → ¬ Y n
theorem Disj.symm {X Y : Nat → Prop} (h : Disj X Y) : Disj Y X := fun n hy hx => h n hx hy

/-- A tree: its cells, its files, those of the last sync, its changes; all its blocks are of X. -/
structure TreeP (w : World) (X : Nat → Prop) (bt : Nat) (room clock : Int) (nm sm : Option Nat) (pv : Value) (YN YS YP : Nat → Prop) (LN LS : FVs) (pend : List Ch) : Prop where
  cells : TreeC w bt room clock nm sm pv
  now : NowR w YN nm LN
  last : NowR w YS sm LS
  row : RowR 96 5 chCells w YP pv pend
  xt : X bt
  xn : ∀ n, YN n → X n
  xs : ∀ n, YS n → X n
  xp : ∀ n, YP n → X n
  tn : ¬ YN bt
  ts : ¬ YS bt
  tp : ¬ YP bt
  ns : Disj YN YS
  np : Disj YN YP
  sp : Disj YS YP
  lt : ∀ n, X n → n < w.heap.size
def TreeR (w : World) (X : Nat → Prop) (bt : Nat) (room clock : Int) (now last : Fs) (pend : List Ch) : Prop :=
  ∃ nm sm pv YN YS YP LN LS, TreeP w X bt room clock nm sm pv YN YS YP LN LS pend ∧ strip LN = now ∧ strip LS = last

theorem TreeP.kept {w w' : World} {X Z : Nat → Prop} {bt : Nat} {room clock : Int} {nm sm : Option Nat} {pv : Value} {YN YS YP : Nat → Prop} {LN LS : FVs} {pend : List Ch} (h : TreeP w X bt room clock nm sm pv YN YS YP LN LS pend) (hT : Turned Z w w') (hd : ∀ n, X n → ¬ Z n) : TreeP w' X bt room clock nm sm pv YN YS YP LN LS pend :=
  ⟨hT.cells h.cells (hd bt h.xt), h.now.kept hT (fun n hn => hd n (h.xn n hn)), h.last.kept hT (fun n hn => hd n (h.xs n hn)), h.row.kept hT (fun n hn => hd n (h.xp n hn)), h.xt, h.xn, h.xs, h.xp, h.tn, h.ts, h.tp, h.ns, h.np, h.sp, fun n hn => Nat.lt_of_lt_of_le (h.lt n hn) hT.size⟩
theorem TreeR.kept {w w' : World} {X Z : Nat → Prop} {bt : Nat} {room clock : Int} {now last : Fs} {pend : List Ch} (h : TreeR w X bt room clock now last pend) (hT : Turned Z w w') (hd : ∀ n, X n → ¬ Z n) : TreeR w' X bt room clock now last pend := by
  obtain ⟨nm, sm, pv, YN, YS, YP, LN, LS, h1, h2⟩ := h
  exact ⟨nm, sm, pv, YN, YS, YP, LN, LS, h1.kept hT hd, h2⟩
theorem turned_below {w w' : World} (h : Below w.heap.size w w') : Turned (fun _ => False) w w' := ⟨h.os, h.tape, h.output, h.size, fun k hk _ => h.block k hk⟩
theorem TreeR.lt {w : World} {X : Nat → Prop} {bt : Nat} {room clock : Int} {now last : Fs} {pend : List Ch} (h : TreeR w X bt room clock now last pend) : ∀ n, X n → n < w.heap.size := by
  obtain ⟨nm, sm, pv, YN, YS, YP, LN, LS, h1, h2⟩ := h
  exact h1.lt
theorem TreeR.below {w w' : World} {X : Nat → Prop} {bt : Nat} {room clock : Int} {now last : Fs} {pend : List Ch} (h : TreeR w X bt room clock now last pend) (hb : Below w.heap.size w w') : TreeR w' X bt room clock now last pend := h.kept (turned_below hb) (fun _ _ => id)
theorem TreeR.has {w : World} {X : Nat → Prop} {bt : Nat} {room clock : Int} {now last : Fs} {pend : List Ch} (h : TreeR w X bt room clock now last pend) : X bt := by
  obtain ⟨nm, sm, pv, YN, YS, YP, LN, LS, h1, h2⟩ := h
  exact h1.xt

/-- What a change's callee leaves of the tree. -/
def Stepped (w : World) (X : Nat → Prop) (bt : Nat) (room clock : Int) (now last : Fs) (pend : List Ch) (w' : World) : Prop :=
  ∃ X', TreeR w' X' bt room clock now last pend ∧ Turned X w w' ∧ ∀ n, X' n → X n ∨ w.heap.size ≤ n

end Go.Proofs.YtchnbnmajagpjaaGreatDoor

namespace Go.Proofs.YtchnbnmajagpjaaGreatDoor
open Go.RowKit Go.Shelf Go.Maps

theorem eqlSome (b : Nat) (w : World) : (binOp .eql 89 (.map (some b)) (.map none)).run Tryz.prog w = .ok (.bool false) w := by kernel_rfl
theorem eqlNil (w : World) : (binOp .eql 89 (.map none) (.map none)).run Tryz.prog w = .ok (.bool true) w := by kernel_rfl

/-- An append whose run is known, at a step of a region that draws. -/
theorem step_append_run {P : Program} {ops : Array Oper} {o : Oper} {a : Act} {w : World} {K : Act → World → Prop} {Q : Exit → Act → World → Prop} {E : Prop} (hg : o.guard = none) (s x : Operand) (t : TypeId)
    (hop : o.op = Op.call { callee := Callee.builtin Builtin.append, args := #[s, x], argTypes := #[t, t] }) (v u v' : Value) (w' : World) (hs : a.eval s = v) (hx : a.eval x = u)
    (hrun : (Builtin.append_ #[t, t] o.type #[v, u]).run P w = .ok v' w') (hK : K (a.put o.dst v') w') : if Region.wanted o (yielded ops a.tmps) = true then Oper.wp P o a w K Q else E := by
  have hw : Region.wanted o (yielded ops a.tmps) = true := by simp [Region.wanted, hg]
  rw [if_pos hw]
  unfold Oper.wp
  simp [execOp, hop, resolve, invoke, builtin, hs, hx, hrun, Result.andThen]
  exact hK

/-- How it stands in do behind apply: the cells of the tree, the box of the change, and P. -/
def DoAt (bt xb : Nat) (room clock : Int) (b : Nat) (sm : Option Nat) (pv : Value) (cs : List Value) (P : World → Prop) (w : World) : Prop :=
  TreeC w bt room clock (some b) sm pv ∧ w.heap[xb]? = some (.cells cs.toArray 96 (0, 0)) ∧ P w

/-- The append of the change, and where it leaves all else. -/
theorem do_push (bt _xb : Nat) (room clock : Int) (b : Nat) (sm : Option Nat) (pv : Value) (c : Ch) (w : World) (hC : TreeC w bt room clock (some b) sm pv) (YP : Nat → Prop) (pend : List Ch) (hr : RowR 96 5 chCells w YP pv pend) (htp : ¬ YP bt) (hl : pend.length < 1099511627776) :
    ∃ v' w', (Builtin.append_ #[90, 90] 90 #[pv, .slice (some ⟨w.heap.size, 0, none⟩) 1 1]).run Tryz.prog (w.alloc (.cells (chCells c).toArray 96)).drew = .ok v' w' ∧
      RowR 96 5 chCells w' (fun n => YP n ∨ w.heap.size ≤ n) v' (pend ++ [c]) ∧ Turned YP w w' ∧ TreeC w' bt room clock (some b) sm pv := by
  have hT : Turned (fun _ => False) w (w.alloc (.cells (chCells c).toArray 96)).drew := (Turned.alloc _ w _).trans (Turned.drew _ _)
  have hr1 := hr.kept hT (fun _ _ => id)
  obtain ⟨v', w', h1, h2, h3, _⟩ := hr1.push rowCh c rfl (by simp [chCells, Value.oneCell']) w.heap.size 1 (0, 0) (World.alloc_heap_new w _) hl 90
  have hs : (w.alloc (.cells (chCells c).toArray 96)).drew.heap.size = w.heap.size + 1 := by simp
  have hTT : Turned YP w w' := (hT.wider fun _ h => h.elim).trans h3
  exact ⟨v', w', h1, h2.wider (fun n hn => hn.elim .inl (fun h => .inr (by omega))), hTT, hTT.cells hC htp⟩

set_option maxRecDepth 100000 in
set_option maxHeartbeats 4000000 in
theorem do_some (bt b : Nat) (k : Nat) (p q s : ByteArray) (room clock : Int) (sm : Option Nat) (pv : Value) (w : World) (hcl : 0 ≤ clock) (hcl2 : clock < 4611686018427387904) (ht : TreeC w bt room clock (some b) sm pv)
    (P : World → Prop) (Q : World → Prop)
    (hA : Calls Tryz.prog 41 #[.map (some b), .agg #[.int .i64 k, .string p, .string q, .string s, .int .i64 (clock + 1)]] (((w.setCell ⟨bt, 1, none⟩ (.int .i64 (clock + 1))).alloc (.cells #[.int .i64 k, .string p, .string q, .string s, .int .i64 (clock + 1)] 96)).drew) fun r w3 =>
      r = .returned (.tuple #[]) ∧ DoAt bt w.heap.size room (clock + 1) b sm pv [.int .i64 k, .string p, .string q, .string s, .int .i64 (clock + 1)] P w3)
    (hP : ∀ w3, DoAt bt w.heap.size room (clock + 1) b sm pv [.int .i64 k, .string p, .string q, .string s, .int .i64 (clock + 1)] P w3 →
      ∃ v' w5, (Builtin.append_ #[90, 90] 90 #[pv, .slice (some ⟨w3.heap.size, 0, none⟩) 1 1]).run Tryz.prog (w3.alloc (.cells #[.int .i64 k, .string p, .string q, .string s, .int .i64 (clock + 1)] 96)).drew = .ok v' w5 ∧
        (∃ o n c, v' = .slice o n c) ∧ TreeC w5 bt room (clock + 1) (some b) sm pv ∧ w5.heap[w.heap.size]? = some (.cells #[.int .i64 k, .string p, .string q, .string s, .int .i64 (clock + 1)] 96 (0, 0)) ∧ Q (w5.setCell ⟨bt, 4, none⟩ v')) :
    Calls Tryz.prog 76 #[.pointer (some ⟨bt, 0, none⟩), .agg #[.int .i64 k, .string p, .string q, .string s, .int .i64 0]] w fun r w' => r = .returned (.tuple #[]) ∧ Q w' := by
  obtain ⟨c0, c1, c2, c3, c4⟩ := ht.cell
  have f1 := ht.frozen 1
  have f2 := ht.frozen 2
  have f4 := ht.frozen 4
  have hlt := ht.lt
  have hq := eqlSome b
  have HA := Lib.hid hA
  have HP := Lib.hid hP
  obtain ⟨W2, hW2⟩ : ∃ W2, W2 = ((w.setCell ⟨bt, 1, none⟩ (.int .i64 (clock + 1))).alloc (.cells #[.int .i64 k, .string p, .string q, .string s, .int .i64 (clock + 1)] 96)).drew := ⟨_, rfl⟩
  have hx2 : W2.heap[w.heap.size]? = some (.cells #[.int .i64 k, .string p, .string q, .string s, .int .i64 (clock + 1)] 96 (0, 0)) := by
    rw [hW2]
    have := World.alloc_heap_new (w.setCell ⟨bt, 1, none⟩ (.int .i64 (clock + 1))) (.cells #[.int .i64 k, .string p, .string q, .string s, .int .i64 (clock + 1)] 96)
    rw [show (w.setCell ⟨bt, 1, none⟩ (.int .i64 (clock + 1))).heap.size = w.heap.size by simp] at this
    exact this
  have hC2 : TreeC W2 bt room (clock + 1) (some b) sm pv := by
    rw [hW2]
    have : (w.setCell ⟨bt, 1, none⟩ (.int .i64 (clock + 1))).heap[bt]? = some (.cells #[.int .i64 room, .int .i64 (clock + 1), .map (some b), .map sm, pv] 92 (0, 0)) := by
      unfold TreeC at ht
      simp [World.setCell, Array.getElem?_modify, ht]
    exact (Below.heap_alloc _ _ _ (by simpa using hlt)).trans this
  obtain ⟨_, _, b2, _, _⟩ := hC2.cell
  have g0 : W2.cell? ⟨w.heap.size, 0, none⟩ = some (.int .i64 k) := by rw [Lib.cell_of_heap hx2]; rfl
  have g1 : W2.cell? ⟨w.heap.size, 1, none⟩ = some (.string p) := by rw [Lib.cell_of_heap hx2]; rfl
  have g2 : W2.cell? ⟨w.heap.size, 2, none⟩ = some (.string q) := by rw [Lib.cell_of_heap hx2]; rfl
  have g3 : W2.cell? ⟨w.heap.size, 3, none⟩ = some (.string s) := by rw [Lib.cell_of_heap hx2]; rfl
  have g4 : W2.cell? ⟨w.heap.size, 4, none⟩ = some (.int .i64 (clock + 1)) := by rw [Lib.cell_of_heap hx2]; rfl
  subst hW2
  have mixed := lays169.mixed
  clear ht hA hP hC2 hx2
  go_enter Tryz.func76, Tryz.ntmps76
  go_wp2
  go_region_held3 (fun w' => w'.cell? ⟨bt, 2, none⟩ = some (.map (some b)) ∧ w'.cell? ⟨w.heap.size, 0, none⟩ = some (.int .i64 k) ∧ w'.cell? ⟨w.heap.size, 1, none⟩ = some (.string p) ∧ w'.cell? ⟨w.heap.size, 2, none⟩ = some (.string q) ∧ w'.cell? ⟨w.heap.size, 3, none⟩ = some (.string s) ∧ w'.cell? ⟨w.heap.size, 4, none⟩ = some (.int .i64 (clock + 1)))
    (first | exact ⟨by assumption, by assumption, by assumption, by assumption, by assumption, by assumption⟩)
    (first | (go_at_call 41; refine (HA.out).mono ?_; rintro r w3 ⟨rfl, HD⟩; have hC3 := HD.1; have hx3 := HD.2.1; have e2 := hC3.cell.2.2.1; have e4 := hC3.cell.2.2.2.2; have j0 : w3.cell? ⟨w.heap.size, 0, none⟩ = some (.int .i64 k) := (by rw [Lib.cell_of_heap hx3]; rfl); have j1 : w3.cell? ⟨w.heap.size, 1, none⟩ = some (.string p) := (by rw [Lib.cell_of_heap hx3]; rfl); have j2 : w3.cell? ⟨w.heap.size, 2, none⟩ = some (.string q) := (by rw [Lib.cell_of_heap hx3]; rfl); have j3 : w3.cell? ⟨w.heap.size, 3, none⟩ = some (.string s) := (by rw [Lib.cell_of_heap hx3]; rfl); have j4 : w3.cell? ⟨w.heap.size, 4, none⟩ = some (.int .i64 (clock + 1)) := (by rw [Lib.cell_of_heap hx3]; rfl)))
  obtain ⟨v', w5, hrun, ⟨vo, vn, vc, rfl⟩, hC5, hx5, hQ⟩ := HP.out w3 HD
  have HQ := Lib.hid hQ
  have m0 : w3.drew.cell? ⟨w.heap.size, 0, none⟩ = some (.int .i64 k) := j0
  have m1 : w3.drew.cell? ⟨w.heap.size, 1, none⟩ = some (.string p) := j1
  have m2 : w3.drew.cell? ⟨w.heap.size, 2, none⟩ = some (.string q) := j2
  have m3 : w3.drew.cell? ⟨w.heap.size, 3, none⟩ = some (.string s) := j3
  have m4 : w3.drew.cell? ⟨w.heap.size, 4, none⟩ = some (.int .i64 (clock + 1)) := j4
  have hx4 : (w3.alloc (.cells #[.int .i64 k, .string p, .string q, .string s, .int .i64 (clock + 1)] 96)).drew.heap[w.heap.size]? = some (.cells #[.int .i64 k, .string p, .string q, .string s, .int .i64 (clock + 1)] 96 (0, 0)) := (Below.heap_alloc _ _ _ (Array.getElem?_eq_some_iff.1 hx3).1).trans hx3
  have hC4 : TreeC (w3.alloc (.cells #[.int .i64 k, .string p, .string q, .string s, .int .i64 (clock + 1)] 96)).drew bt room (clock + 1) (some b) sm pv := (Below.heap_alloc _ _ _ hC3.lt).trans hC3
  have d4 : w3.drew.cell? ⟨bt, 4, none⟩ = some pv := e4
  have d5 := hC4.cell.2.2.2.2
  have d5' : (w3.alloc (.cells #[.int .i64 k, .string p, .string q, .string s, .int .i64 (clock + 1)] 96)).cell? ⟨bt, 4, none⟩ = some pv := d5
  have d6 := hC5.cell.2.2.2.2
  have d7 := hC5.frozen 4
  obtain ⟨W6, hW6⟩ : ∃ W6, W6 = w5.setCell ⟨bt, 4, none⟩ (.slice vo vn vc) := ⟨_, rfl⟩
  have hbx : bt ≠ w.heap.size := by omega
  have hx6 : (w5.setCell ⟨bt, 4, none⟩ (.slice vo vn vc)).heap[w.heap.size]? = some (.cells #[.int .i64 k, .string p, .string q, .string s, .int .i64 (clock + 1)] 96 (0, 0)) := (Below.heap_setCell _ _ _ _ (fun e => hbx e.symm)).trans hx5
  have n0 : (w3.alloc (.cells #[.int .i64 k, .string p, .string q, .string s, .int .i64 (clock + 1)] 96)).drew.cell? ⟨w.heap.size, 0, none⟩ = some (.int .i64 k) := by rw [Lib.cell_of_heap hx4]; rfl
  have nn0 : (w3.alloc (.cells #[.int .i64 k, .string p, .string q, .string s, .int .i64 (clock + 1)] 96)).cell? ⟨w.heap.size, 0, none⟩ = some (.int .i64 k) := n0
  have n1 : (w3.alloc (.cells #[.int .i64 k, .string p, .string q, .string s, .int .i64 (clock + 1)] 96)).drew.cell? ⟨w.heap.size, 1, none⟩ = some (.string p) := by rw [Lib.cell_of_heap hx4]; rfl
  have nn1 : (w3.alloc (.cells #[.int .i64 k, .string p, .string q, .string s, .int .i64 (clock + 1)] 96)).cell? ⟨w.heap.size, 1, none⟩ = some (.string p) := n1
  have n2 : (w3.alloc (.cells #[.int .i64 k, .string p, .string q, .string s, .int .i64 (clock + 1)] 96)).drew.cell? ⟨w.heap.size, 2, none⟩ = some (.string q) := by rw [Lib.cell_of_heap hx4]; rfl
  have nn2 : (w3.alloc (.cells #[.int .i64 k, .string p, .string q, .string s, .int .i64 (clock + 1)] 96)).cell? ⟨w.heap.size, 2, none⟩ = some (.string q) := n2
  have n3 : (w3.alloc (.cells #[.int .i64 k, .string p, .string q, .string s, .int .i64 (clock + 1)] 96)).drew.cell? ⟨w.heap.size, 3, none⟩ = some (.string s) := by rw [Lib.cell_of_heap hx4]; rfl
  have nn3 : (w3.alloc (.cells #[.int .i64 k, .string p, .string q, .string s, .int .i64 (clock + 1)] 96)).cell? ⟨w.heap.size, 3, none⟩ = some (.string s) := n3
  have n4 : (w3.alloc (.cells #[.int .i64 k, .string p, .string q, .string s, .int .i64 (clock + 1)] 96)).drew.cell? ⟨w.heap.size, 4, none⟩ = some (.int .i64 (clock + 1)) := by rw [Lib.cell_of_heap hx4]; rfl
  have nn4 : (w3.alloc (.cells #[.int .i64 k, .string p, .string q, .string s, .int .i64 (clock + 1)] 96)).cell? ⟨w.heap.size, 4, none⟩ = some (.int .i64 (clock + 1)) := n4
  have o0 : w5.cell? ⟨w.heap.size, 0, none⟩ = some (.int .i64 k) := by rw [Lib.cell_of_heap hx5]; rfl
  have o1 : w5.cell? ⟨w.heap.size, 1, none⟩ = some (.string p) := by rw [Lib.cell_of_heap hx5]; rfl
  have o2 : w5.cell? ⟨w.heap.size, 2, none⟩ = some (.string q) := by rw [Lib.cell_of_heap hx5]; rfl
  have o3 : w5.cell? ⟨w.heap.size, 3, none⟩ = some (.string s) := by rw [Lib.cell_of_heap hx5]; rfl
  have o4 : w5.cell? ⟨w.heap.size, 4, none⟩ = some (.int .i64 (clock + 1)) := by rw [Lib.cell_of_heap hx5]; rfl
  have r0 : (w5.setCell ⟨bt, 4, none⟩ (.slice vo vn vc)).cell? ⟨w.heap.size, 0, none⟩ = some (.int .i64 k) := by rw [Lib.cell_of_heap hx6]; rfl
  have r1 : (w5.setCell ⟨bt, 4, none⟩ (.slice vo vn vc)).cell? ⟨w.heap.size, 1, none⟩ = some (.string p) := by rw [Lib.cell_of_heap hx6]; rfl
  have r2 : (w5.setCell ⟨bt, 4, none⟩ (.slice vo vn vc)).cell? ⟨w.heap.size, 2, none⟩ = some (.string q) := by rw [Lib.cell_of_heap hx6]; rfl
  have r3 : (w5.setCell ⟨bt, 4, none⟩ (.slice vo vn vc)).cell? ⟨w.heap.size, 3, none⟩ = some (.string s) := by rw [Lib.cell_of_heap hx6]; rfl
  have r4 : (w5.setCell ⟨bt, 4, none⟩ (.slice vo vn vc)).cell? ⟨w.heap.size, 4, none⟩ = some (.int .i64 (clock + 1)) := by rw [Lib.cell_of_heap hx6]; rfl
  clear HA HP HD hC3 hx3 hx4 hC4 hC5 hx5 hx6 hQ hW6
  go_wp2
  go_region_law (refine step_append_run rfl (.tmp 35) (.tmp 37) 90 rfl _ _ _ w5 (by simp [Act.eval]) (by simp [Act.eval]) hrun ?_)
  all_goals (
    go_wp2
    go_end0
    exact ⟨rfl, HQ.out⟩)



set_option maxRecDepth 100000 in
set_option maxHeartbeats 4000000 in
theorem do_none (bt : Nat) (k : Nat) (p q s : ByteArray) (room clock : Int) (sm : Option Nat) (pv : Value) (w : World) (hcl : 0 ≤ clock) (hcl2 : clock < 4611686018427387904) (ht : TreeC w bt room clock none sm pv)
    (P : World → Prop) (Q : World → Prop)
    (hA : Calls Tryz.prog 41 #[.map (some (w.heap.size + 1)), .agg #[.int .i64 k, .string p, .string q, .string s, .int .i64 (clock + 1)]] (((((w.setCell ⟨bt, 1, none⟩ (.int .i64 (clock + 1))).setCell ⟨bt, 2, none⟩ (.map (some (w.heap.size + 1)))).alloc (.cells #[.int .i64 k, .string p, .string q, .string s, .int .i64 (clock + 1)] 96)).alloc (.map #[] 0)).drew) fun r w3 =>
      r = .returned (.tuple #[]) ∧ DoAt bt w.heap.size room (clock + 1) (w.heap.size + 1) sm pv [.int .i64 k, .string p, .string q, .string s, .int .i64 (clock + 1)] P w3)
    (hP : ∀ w3, DoAt bt w.heap.size room (clock + 1) (w.heap.size + 1) sm pv [.int .i64 k, .string p, .string q, .string s, .int .i64 (clock + 1)] P w3 →
      ∃ v' w5, (Builtin.append_ #[90, 90] 90 #[pv, .slice (some ⟨w3.heap.size, 0, none⟩) 1 1]).run Tryz.prog (w3.alloc (.cells #[.int .i64 k, .string p, .string q, .string s, .int .i64 (clock + 1)] 96)).drew = .ok v' w5 ∧
        (∃ o n c, v' = .slice o n c) ∧ TreeC w5 bt room (clock + 1) (some (w.heap.size + 1)) sm pv ∧ w5.heap[w.heap.size]? = some (.cells #[.int .i64 k, .string p, .string q, .string s, .int .i64 (clock + 1)] 96 (0, 0)) ∧ Q (w5.setCell ⟨bt, 4, none⟩ v')) :
    Calls Tryz.prog 76 #[.pointer (some ⟨bt, 0, none⟩), .agg #[.int .i64 k, .string p, .string q, .string s, .int .i64 0]] w fun r w' => r = .returned (.tuple #[]) ∧ Q w' := by
  obtain ⟨c0, c1, c2, c3, c4⟩ := ht.cell
  have f1 := ht.frozen 1
  have f2 := ht.frozen 2
  have f4 := ht.frozen 4
  have hlt := ht.lt
  have hq := eqlNil
  have hmm := @run_makeMap Tryz.prog
  have HA := Lib.hid hA
  have HP := Lib.hid hP
  obtain ⟨W2, hW2⟩ : ∃ W2, W2 = ((((w.setCell ⟨bt, 1, none⟩ (.int .i64 (clock + 1))).setCell ⟨bt, 2, none⟩ (.map (some (w.heap.size + 1)))).alloc (.cells #[.int .i64 k, .string p, .string q, .string s, .int .i64 (clock + 1)] 96)).alloc (.map #[] 0)).drew := ⟨_, rfl⟩
  have hz : ((w.setCell ⟨bt, 1, none⟩ (.int .i64 (clock + 1))).setCell ⟨bt, 2, none⟩ (.map (some (w.heap.size + 1)))).heap.size = w.heap.size := by simp
  have hx2 : W2.heap[w.heap.size]? = some (.cells #[.int .i64 k, .string p, .string q, .string s, .int .i64 (clock + 1)] 96 (0, 0)) := by
    rw [hW2]
    refine (Below.heap_alloc _ _ _ (by simp)).trans ?_
    have := World.alloc_heap_new ((w.setCell ⟨bt, 1, none⟩ (.int .i64 (clock + 1))).setCell ⟨bt, 2, none⟩ (.map (some (w.heap.size + 1)))) (.cells #[.int .i64 k, .string p, .string q, .string s, .int .i64 (clock + 1)] 96)
    rwa [hz] at this
  have hC2 : TreeC W2 bt room (clock + 1) (some (w.heap.size + 1)) sm pv := by
    rw [hW2]
    have : ((w.setCell ⟨bt, 1, none⟩ (.int .i64 (clock + 1))).setCell ⟨bt, 2, none⟩ (.map (some (w.heap.size + 1)))).heap[bt]? = some (.cells #[.int .i64 room, .int .i64 (clock + 1), .map (some (w.heap.size + 1)), .map sm, pv] 92 (0, 0)) := by
      unfold TreeC at ht
      simp [World.setCell, Array.getElem?_modify, ht]
    exact ((Below.heap_alloc _ _ _ (by simp; omega)).trans (Below.heap_alloc _ _ _ (by simpa using hlt))).trans this
  obtain ⟨_, _, b2, _, _⟩ := hC2.cell
  have g0 : W2.cell? ⟨w.heap.size, 0, none⟩ = some (.int .i64 k) := by rw [Lib.cell_of_heap hx2]; rfl
  have g1 : W2.cell? ⟨w.heap.size, 1, none⟩ = some (.string p) := by rw [Lib.cell_of_heap hx2]; rfl
  have g2 : W2.cell? ⟨w.heap.size, 2, none⟩ = some (.string q) := by rw [Lib.cell_of_heap hx2]; rfl
  have g3 : W2.cell? ⟨w.heap.size, 3, none⟩ = some (.string s) := by rw [Lib.cell_of_heap hx2]; rfl
  have g4 : W2.cell? ⟨w.heap.size, 4, none⟩ = some (.int .i64 (clock + 1)) := by rw [Lib.cell_of_heap hx2]; rfl
  subst hW2
  have mixed := lays169.mixed
  clear ht hA hP hC2 hx2
  go_enter Tryz.func76, Tryz.ntmps76
  go_wp2
  go_region_held3 (fun w' => w'.cell? ⟨bt, 2, none⟩ = some (.map (some (w.heap.size + 1))) ∧ w'.cell? ⟨w.heap.size, 0, none⟩ = some (.int .i64 k) ∧ w'.cell? ⟨w.heap.size, 1, none⟩ = some (.string p) ∧ w'.cell? ⟨w.heap.size, 2, none⟩ = some (.string q) ∧ w'.cell? ⟨w.heap.size, 3, none⟩ = some (.string s) ∧ w'.cell? ⟨w.heap.size, 4, none⟩ = some (.int .i64 (clock + 1)))
    (first | exact ⟨by assumption, by assumption, by assumption, by assumption, by assumption, by assumption⟩)
    (first | (go_at_call 41; refine (HA.out).mono ?_; rintro r w3 ⟨rfl, HD⟩; have hC3 := HD.1; have hx3 := HD.2.1; have e2 := hC3.cell.2.2.1; have e4 := hC3.cell.2.2.2.2; have j0 : w3.cell? ⟨w.heap.size, 0, none⟩ = some (.int .i64 k) := (by rw [Lib.cell_of_heap hx3]; rfl); have j1 : w3.cell? ⟨w.heap.size, 1, none⟩ = some (.string p) := (by rw [Lib.cell_of_heap hx3]; rfl); have j2 : w3.cell? ⟨w.heap.size, 2, none⟩ = some (.string q) := (by rw [Lib.cell_of_heap hx3]; rfl); have j3 : w3.cell? ⟨w.heap.size, 3, none⟩ = some (.string s) := (by rw [Lib.cell_of_heap hx3]; rfl); have j4 : w3.cell? ⟨w.heap.size, 4, none⟩ = some (.int .i64 (clock + 1)) := (by rw [Lib.cell_of_heap hx3]; rfl)))
  obtain ⟨v', w5, hrun, ⟨vo, vn, vc, rfl⟩, hC5, hx5, hQ⟩ := HP.out w3 HD
  have HQ := Lib.hid hQ
  have m0 : w3.drew.cell? ⟨w.heap.size, 0, none⟩ = some (.int .i64 k) := j0
  have m1 : w3.drew.cell? ⟨w.heap.size, 1, none⟩ = some (.string p) := j1
  have m2 : w3.drew.cell? ⟨w.heap.size, 2, none⟩ = some (.string q) := j2
  have m3 : w3.drew.cell? ⟨w.heap.size, 3, none⟩ = some (.string s) := j3
  have m4 : w3.drew.cell? ⟨w.heap.size, 4, none⟩ = some (.int .i64 (clock + 1)) := j4
  have hx4 : (w3.alloc (.cells #[.int .i64 k, .string p, .string q, .string s, .int .i64 (clock + 1)] 96)).drew.heap[w.heap.size]? = some (.cells #[.int .i64 k, .string p, .string q, .string s, .int .i64 (clock + 1)] 96 (0, 0)) := (Below.heap_alloc _ _ _ (Array.getElem?_eq_some_iff.1 hx3).1).trans hx3
  have hC4 : TreeC (w3.alloc (.cells #[.int .i64 k, .string p, .string q, .string s, .int .i64 (clock + 1)] 96)).drew bt room (clock + 1) (some (w.heap.size + 1)) sm pv := (Below.heap_alloc _ _ _ hC3.lt).trans hC3
  have d4 : w3.drew.cell? ⟨bt, 4, none⟩ = some pv := e4
  have d5 := hC4.cell.2.2.2.2
  have d5' : (w3.alloc (.cells #[.int .i64 k, .string p, .string q, .string s, .int .i64 (clock + 1)] 96)).cell? ⟨bt, 4, none⟩ = some pv := d5
  have d6 := hC5.cell.2.2.2.2
  have d7 := hC5.frozen 4
  obtain ⟨W6, hW6⟩ : ∃ W6, W6 = w5.setCell ⟨bt, 4, none⟩ (.slice vo vn vc) := ⟨_, rfl⟩
  have hbx : bt ≠ w.heap.size := by omega
  have hx6 : (w5.setCell ⟨bt, 4, none⟩ (.slice vo vn vc)).heap[w.heap.size]? = some (.cells #[.int .i64 k, .string p, .string q, .string s, .int .i64 (clock + 1)] 96 (0, 0)) := (Below.heap_setCell _ _ _ _ (fun e => hbx e.symm)).trans hx5
  have n0 : (w3.alloc (.cells #[.int .i64 k, .string p, .string q, .string s, .int .i64 (clock + 1)] 96)).drew.cell? ⟨w.heap.size, 0, none⟩ = some (.int .i64 k) := by rw [Lib.cell_of_heap hx4]; rfl
  have nn0 : (w3.alloc (.cells #[.int .i64 k, .string p, .string q, .string s, .int .i64 (clock + 1)] 96)).cell? ⟨w.heap.size, 0, none⟩ = some (.int .i64 k) := n0
  have n1 : (w3.alloc (.cells #[.int .i64 k, .string p, .string q, .string s, .int .i64 (clock + 1)] 96)).drew.cell? ⟨w.heap.size, 1, none⟩ = some (.string p) := by rw [Lib.cell_of_heap hx4]; rfl
  have nn1 : (w3.alloc (.cells #[.int .i64 k, .string p, .string q, .string s, .int .i64 (clock + 1)] 96)).cell? ⟨w.heap.size, 1, none⟩ = some (.string p) := n1
  have n2 : (w3.alloc (.cells #[.int .i64 k, .string p, .string q, .string s, .int .i64 (clock + 1)] 96)).drew.cell? ⟨w.heap.size, 2, none⟩ = some (.string q) := by rw [Lib.cell_of_heap hx4]; rfl
  have nn2 : (w3.alloc (.cells #[.int .i64 k, .string p, .string q, .string s, .int .i64 (clock + 1)] 96)).cell? ⟨w.heap.size, 2, none⟩ = some (.string q) := n2
  have n3 : (w3.alloc (.cells #[.int .i64 k, .string p, .string q, .string s, .int .i64 (clock + 1)] 96)).drew.cell? ⟨w.heap.size, 3, none⟩ = some (.string s) := by rw [Lib.cell_of_heap hx4]; rfl
  have nn3 : (w3.alloc (.cells #[.int .i64 k, .string p, .string q, .string s, .int .i64 (clock + 1)] 96)).cell? ⟨w.heap.size, 3, none⟩ = some (.string s) := n3
  have n4 : (w3.alloc (.cells #[.int .i64 k, .string p, .string q, .string s, .int .i64 (clock + 1)] 96)).drew.cell? ⟨w.heap.size, 4, none⟩ = some (.int .i64 (clock + 1)) := by rw [Lib.cell_of_heap hx4]; rfl
  have nn4 : (w3.alloc (.cells #[.int .i64 k, .string p, .string q, .string s, .int .i64 (clock + 1)] 96)).cell? ⟨w.heap.size, 4, none⟩ = some (.int .i64 (clock + 1)) := n4
  have o0 : w5.cell? ⟨w.heap.size, 0, none⟩ = some (.int .i64 k) := by rw [Lib.cell_of_heap hx5]; rfl
  have o1 : w5.cell? ⟨w.heap.size, 1, none⟩ = some (.string p) := by rw [Lib.cell_of_heap hx5]; rfl
  have o2 : w5.cell? ⟨w.heap.size, 2, none⟩ = some (.string q) := by rw [Lib.cell_of_heap hx5]; rfl
  have o3 : w5.cell? ⟨w.heap.size, 3, none⟩ = some (.string s) := by rw [Lib.cell_of_heap hx5]; rfl
  have o4 : w5.cell? ⟨w.heap.size, 4, none⟩ = some (.int .i64 (clock + 1)) := by rw [Lib.cell_of_heap hx5]; rfl
  have r0 : (w5.setCell ⟨bt, 4, none⟩ (.slice vo vn vc)).cell? ⟨w.heap.size, 0, none⟩ = some (.int .i64 k) := by rw [Lib.cell_of_heap hx6]; rfl
  have r1 : (w5.setCell ⟨bt, 4, none⟩ (.slice vo vn vc)).cell? ⟨w.heap.size, 1, none⟩ = some (.string p) := by rw [Lib.cell_of_heap hx6]; rfl
  have r2 : (w5.setCell ⟨bt, 4, none⟩ (.slice vo vn vc)).cell? ⟨w.heap.size, 2, none⟩ = some (.string q) := by rw [Lib.cell_of_heap hx6]; rfl
  have r3 : (w5.setCell ⟨bt, 4, none⟩ (.slice vo vn vc)).cell? ⟨w.heap.size, 3, none⟩ = some (.string s) := by rw [Lib.cell_of_heap hx6]; rfl
  have r4 : (w5.setCell ⟨bt, 4, none⟩ (.slice vo vn vc)).cell? ⟨w.heap.size, 4, none⟩ = some (.int .i64 (clock + 1)) := by rw [Lib.cell_of_heap hx6]; rfl
  clear HA HP HD hC3 hx3 hx4 hC4 hC5 hx5 hx6 hQ hW6
  go_wp2
  go_region_law (refine step_append_run rfl (.tmp 35) (.tmp 37) 90 rfl _ _ _ w5 (by simp [Act.eval]) (by simp [Act.eval]) hrun ?_)
  all_goals (
    go_wp2
    go_end0
    exact ⟨rfl, HQ.out⟩)

/-- A change, done to a tree. -/
theorem do_any (bt : Nat) (X : Nat → Prop) (k : Nat) (p q s : ByteArray) (a : BS) (room clock : Int) (now last : Fs) (pend : List Ch) (w : World) (hcl : 0 ≤ clock) (hcl2 : clock < 4611686018427387904) (h : TreeR w X bt room clock now last pend)
    (hc : chCells (k, p.data.toList, a, clock + 1) = [.int .i64 k, .string p, .string q, .string s, .int .i64 (clock + 1)]) (hf : Fits now (k, p.data.toList, a, clock + 1)) (hn : now.length < 1073741824) (hl : pend.length < 1073741824) :
    Calls Tryz.prog 76 #[.pointer (some ⟨bt, 0, none⟩), .agg #[.int .i64 k, .string p, .string q, .string s, .int .i64 0]] w fun r w' => r = .returned (.tuple #[]) ∧
      Stepped w X bt room (clock + 1) (after now (k, p.data.toList, a, clock + 1)) last (pend ++ [(k, p.data.toList, a, clock + 1)]) w' := by
  obtain ⟨nm, sm, pv, YN, YS, YP, LN, LS, hp, rfl, rfl⟩ := h
  obtain ⟨c, hcd⟩ : ∃ c : Ch, c = (k, p.data.toList, a, clock + 1) := ⟨_, rfl⟩
  rw [← hcd] at hc hf ⊢
  have hlt := hp.cells.lt
  have hXl := hp.lt
  -- whatever apply leaves, the append and the store behind it leave the tree
  have core : ∀ (b : Nat) (W : World) (YB : Nat → Prop) (LB : FVs), TreeC W bt room (clock + 1) (some b) sm pv → W.heap[w.heap.size]? = some (.cells #[.int .i64 k, .string p, .string q, .string s, .int .i64 (clock + 1)] 96 (0, 0)) →
      Turned (fun n => n = bt) w W → NowR W YB (some b) LB → strip LB = strip LN → (∀ n, YB n → YN n ∨ w.heap.size < n) →
      Calls Tryz.prog 41 #[.map (some b), .agg #[.int .i64 k, .string p, .string q, .string s, .int .i64 (clock + 1)]] W fun r w3 => r = .returned (.tuple #[]) ∧
        DoAt bt w.heap.size room (clock + 1) b sm pv [.int .i64 k, .string p, .string q, .string s, .int .i64 (clock + 1)] (fun w3 => ∃ YN' LN', NowR w3 YN' (some b) LN' ∧ strip LN' = after (strip LN) c ∧ Turned (fun n => YB n ∨ n = bt) w w3 ∧ (∀ n, YN' n → YN n ∨ w.heap.size < n) ∧ w.heap.size < w3.heap.size) w3 := by
    intro b W YB LB hC hx hT hN hs hY
    have hxl := (Array.getElem?_eq_some_iff.1 hx).1
    have hA := apply_any b YB LB c W hN (by rw [← strip_length, hs, strip_length]; rw [strip_length] at hn; exact hn) (by rw [hs]; exact hf)
    rw [hc] at hA
    refine hA.mono ?_
    rintro r w3 ⟨rfl, Y', L', h1, h2, h3, h4⟩
    have hbt : ¬ YB bt := fun hb => by
      rcases hY bt hb with h | h
      · exact hp.tn h
      · omega
    have hbx : ¬ YB w.heap.size := fun hb => by
      rcases hY _ hb with h | h
      · have := hXl _ (hp.xn _ h); omega
      · omega
    have hsz := h3.size
    exact ⟨rfl, h3.cells hC hbt, h3.cells hx hbx, Y', L', h1, by rw [h2, hs], (hT.wider fun n h => .inr h).trans (h3.wider fun n h => .inl h), fun n hn => by
      rcases h4 n hn with h | h
      · exact hY n h
      · right; omega, by omega⟩
  have fin : ∀ (b : Nat) (YB : Nat → Prop), (∀ n, YB n → YN n ∨ w.heap.size < n) → ∀ w3, DoAt bt w.heap.size room (clock + 1) b sm pv [.int .i64 k, .string p, .string q, .string s, .int .i64 (clock + 1)] (fun w3 => ∃ YN' LN', NowR w3 YN' (some b) LN' ∧ strip LN' = after (strip LN) c ∧ Turned (fun n => YB n ∨ n = bt) w w3 ∧ (∀ n, YN' n → YN n ∨ w.heap.size < n) ∧ w.heap.size < w3.heap.size) w3 →
      ∃ v' w5, (Builtin.append_ #[90, 90] 90 #[pv, .slice (some ⟨w3.heap.size, 0, none⟩) 1 1]).run Tryz.prog (w3.alloc (.cells #[.int .i64 k, .string p, .string q, .string s, .int .i64 (clock + 1)] 96)).drew = .ok v' w5 ∧
        (∃ o n c, v' = .slice o n c) ∧ TreeC w5 bt room (clock + 1) (some b) sm pv ∧ w5.heap[w.heap.size]? = some (.cells #[.int .i64 k, .string p, .string q, .string s, .int .i64 (clock + 1)] 96 (0, 0)) ∧
        Stepped w X bt room (clock + 1) (after (strip LN) c) (strip LS) (pend ++ [c]) (w5.setCell ⟨bt, 4, none⟩ v') := by
    rintro b YB hYB w3 ⟨hC, hx, YN', LN', hN, hs, hT, hY', hsz⟩
    have hd : ∀ n, YB n ∨ n = bt → ¬ YP n ∧ ¬ YS n := by
      rintro n (hn | rfl)
      · rcases hYB n hn with h | h
        · exact ⟨hp.np n h, hp.ns n h⟩
        · exact ⟨fun hh => by have := hXl n (hp.xp n hh); omega, fun hh => by have := hXl n (hp.xs n hh); omega⟩
      · exact ⟨hp.tp, hp.ts⟩
    have hr3 := hp.row.kept hT (fun n hn hx => (hd n hx).1 hn)
    have hS3 := hp.last.kept hT (fun n hn hx => (hd n hx).2 hn)
    obtain ⟨v', w5, h1, h2, h3, h4⟩ := do_push bt w.heap.size room (clock + 1) b sm pv c w3 hC YP pend hr3 hp.tp (by omega)
    rw [hc] at h1
    have hbx : ¬ YP w.heap.size := fun hb => by have := hXl _ (hp.xp _ hb); omega
    refine ⟨v', w5, h1, ?_, h4, h3.cells hx hbx, ?_⟩
    · rcases h2.1.2 with ⟨rfl, _⟩ | ⟨g, cap, cur, rfl, _⟩
      · exact ⟨_, _, _, rfl⟩
      · exact ⟨_, _, _, rfl⟩
    have hsz5 := h3.size
    obtain ⟨W6, hW6⟩ : ∃ W6, W6 = w5.setCell ⟨bt, 4, none⟩ v' := ⟨_, rfl⟩
    have hT6 : Turned (fun n => n = bt) w5 W6 := by rw [hW6]; exact Turned.setCell (X := fun n => n = bt) w5 ⟨bt, 4, none⟩ v' rfl
    have hC6 : TreeC W6 bt room (clock + 1) (some b) sm v' := by
      rw [hW6]
      unfold TreeC at h4
      simp [TreeC, World.setCell, Array.getElem?_modify, h4]
    have hs6 := hT6.size
    rw [← hW6]
    have hT03 : Turned X w w3 := (Turned.refl X w).andThen hT (fun n hn => by
      rcases hn with hn | rfl
      · rcases hYB n hn with h | h
        · exact .inl (hp.xn n h)
        · right; omega
      · exact .inl hp.xt)
    have hTall : Turned X w W6 := (hT03.andThen h3 (fun n hn => .inl (hp.xp n hn))).andThen hT6 (fun n hn => .inl (by rw [hn]; exact hp.xt))
    have dNP : ∀ n, YN' n → ¬ YP n := fun n hn hx => by
      rcases hY' n hn with h | h
      · exact hp.np n h hx
      · have := hXl n (hp.xp n hx); omega
    have dNb : ∀ n, YN' n → n ≠ bt := fun n hn hx => by
      rcases hY' n hn with h | h
      · exact hp.tn (hx ▸ h)
      · omega
    have hN6 := (hN.kept h3 dNP).kept hT6 dNb
    have hS6 := (hS3.kept h3 (fun n hn => hp.sp n hn)).kept hT6 (fun n hn (hx : n = bt) => hp.ts (hx ▸ hn))
    have hR6 := h2.tight.kept hT6 (fun n hn (hx : n = bt) => by
      rcases hn.1 with h | h
      · exact hp.tp (hx ▸ h)
      · omega)
    refine ⟨fun n => X n ∨ (w.heap.size ≤ n ∧ n < W6.heap.size), ⟨some b, sm, v', YN', YS, _, LN', LS, ⟨hC6, hN6, hS6, hR6, .inl hp.xt, fun n hn => ?_, fun n hn => .inl (hp.xs n hn), fun n hn => ?_, fun hn => dNb bt hn rfl, hp.ts, fun hn => ?_, fun n hn hx => ?_, fun n hn hx => ?_, fun n hn hx => ?_, fun n hn => ?_⟩, hs, rfl⟩, hTall, fun n hn => hn.elim .inl (fun h => .inr h.1)⟩
    · rcases hY' n hn with h | h
      · exact .inl (hp.xn n h)
      · exact .inr ⟨by omega, hN6.lt n hn⟩
    · rcases hn.1 with h | h
      · exact .inl (hp.xp n h)
      · exact .inr ⟨by omega, by omega⟩
    · rcases hn.1 with h | h
      · exact hp.tp h
      · omega
    · rcases hY' n hn with h | h
      · exact hp.ns n h hx
      · have := hXl n (hp.xs n hx); omega
    · rcases hx.1 with h | h
      · exact dNP n hn h
      · have := hN.lt n hn; omega
    · rcases hx.1 with h | h
      · exact hp.sp n hn h
      · have := hXl n (hp.xs n hn); omega
    · rcases hn with h | h
      · have := hXl n h; have := hTall.size; omega
      · exact h.2
  rcases hp.now.map with ⟨rfl, hLN⟩ | ⟨b, rfl, hM⟩
  · refine do_none bt k p q s room clock sm pv w hcl hcl2 hp.cells _ _ (core (w.heap.size + 1) _ (fun n => n = w.heap.size + 1) [] ?_ ?_ ?_ ?_ (by rw [hLN]) (fun n hn => .inr (by omega))) (fin (w.heap.size + 1) (fun n => n = w.heap.size + 1) (fun n hn => .inr (by omega)))
    · have : ((w.setCell ⟨bt, 1, none⟩ (.int .i64 (clock + 1))).setCell ⟨bt, 2, none⟩ (.map (some (w.heap.size + 1)))).heap[bt]? = some (.cells #[.int .i64 room, .int .i64 (clock + 1), .map (some (w.heap.size + 1)), .map sm, pv] 92 (0, 0)) := by
        have hc := hp.cells
        unfold TreeC at hc
        simp [World.setCell, Array.getElem?_modify, hc]
      exact ((Below.heap_alloc _ _ _ (by simp; omega)).trans (Below.heap_alloc _ _ _ (by simpa using hlt))).trans this
    · refine (Below.heap_alloc _ _ _ (by simp)).trans ?_
      have := World.alloc_heap_new ((w.setCell ⟨bt, 1, none⟩ (.int .i64 (clock + 1))).setCell ⟨bt, 2, none⟩ (.map (some (w.heap.size + 1)))) (.cells #[.int .i64 k, .string p, .string q, .string s, .int .i64 (clock + 1)] 96)
      rwa [show ((w.setCell ⟨bt, 1, none⟩ (.int .i64 (clock + 1))).setCell ⟨bt, 2, none⟩ (.map (some (w.heap.size + 1)))).heap.size = w.heap.size by simp] at this
    · exact ((((Turned.setCell (X := fun n => n = bt) w ⟨bt, 1, none⟩ _ rfl).trans (Turned.setCell (X := fun n => n = bt) _ ⟨bt, 2, none⟩ _ rfl)).trans (Turned.alloc _ _ _)).trans (Turned.alloc _ _ _)).trans (Turned.drew _ _)
    · have h1 := NowR.made (((w.setCell ⟨bt, 1, none⟩ (.int .i64 (clock + 1))).setCell ⟨bt, 2, none⟩ (.map (some (w.heap.size + 1)))).alloc (.cells #[.int .i64 k, .string p, .string q, .string s, .int .i64 (clock + 1)] 96))
      rw [show (((w.setCell ⟨bt, 1, none⟩ (.int .i64 (clock + 1))).setCell ⟨bt, 2, none⟩ (.map (some (w.heap.size + 1)))).alloc (.cells #[.int .i64 k, .string p, .string q, .string s, .int .i64 (clock + 1)] 96)).heap.size = w.heap.size + 1 by simp] at h1
      exact h1.kept (Turned.drew (fun _ => False) _) (fun _ _ => id)
  · have hTW : Turned (fun n => n = bt) w ((w.setCell ⟨bt, 1, none⟩ (.int .i64 (clock + 1))).alloc (.cells #[.int .i64 k, .string p, .string q, .string s, .int .i64 (clock + 1)] 96)).drew := ((Turned.setCell (X := fun n => n = bt) w ⟨bt, 1, none⟩ _ rfl).trans (Turned.alloc _ _ _)).trans (Turned.drew _ _)
    refine do_some bt b k p q s room clock sm pv w hcl hcl2 hp.cells _ _ (core b _ YN LN ?_ ?_ hTW (hp.now.kept hTW (fun n hn (hx : n = bt) => hp.tn (hx ▸ hn))) rfl (fun n hn => .inl hn)) (fin b YN (fun n hn => .inl hn))
    · have : (w.setCell ⟨bt, 1, none⟩ (.int .i64 (clock + 1))).heap[bt]? = some (.cells #[.int .i64 room, .int .i64 (clock + 1), .map (some b), .map sm, pv] 92 (0, 0)) := by
        have hc := hp.cells
        unfold TreeC at hc
        simp [World.setCell, Array.getElem?_modify, hc]
      exact (Below.heap_alloc _ _ _ (by simpa using hlt)).trans this
    · have := World.alloc_heap_new (w.setCell ⟨bt, 1, none⟩ (.int .i64 (clock + 1))) (.cells #[.int .i64 k, .string p, .string q, .string s, .int .i64 (clock + 1)] 96)
      rw [show (w.setCell ⟨bt, 1, none⟩ (.int .i64 (clock + 1))).heap.size = w.heap.size by simp] at this
      exact this

end Go.Proofs.YtchnbnmajagpjaaGreatDoor

namespace Go.Proofs.YtchnbnmajagpjaaGreatDoor
open Go.RowKit Go.Shelf Go.Maps

def checkC (room : Int) (now : Fs) (p : BS) (n : Nat) : Int :=
  if pathB p = false then 1 else if 16777216 < n then 3 else if blocked now p = true then 5
  else if room < (used now : Int) - ((textOf now p).length : Int) + (n : Int) then 6 else if 200 ≤ now.length ∧ (look now p).isSome = false then 6 else 0

theorem fileOr_text (L : FVs) (p : ByteArray) : (fileOr L p).1 = textOf (strip L) p.data.toList := by
  unfold textOf fileOr
  rw [strip_look]
  cases look L p.data.toList <;> rfl
theorem le_sum_mem : ∀ {l : List Nat} {x : Nat}, x ∈ l → x ≤ l.sum
  | [], _, h => by simp at h
  | y :: r, x, h => by
    rcases List.mem_cons.1 h with rfl | h
    · simp
    · have := le_sum_mem h; simp; omega
theorem text_used (now : Fs) (p : BS) : (textOf now p).length ≤ used now := by
  unfold textOf
  cases hl : look now p with
  | none => simp
  | some v =>
    have hm := look_mem hl
    show v.1.length ≤ _
    unfold used
    exact le_sum_mem (List.mem_map.2 ⟨_, hm, rfl⟩)

theorem path_t (s : ByteArray) (hs : s.size ≤ maxLen) (w : World) (h : pathB s.data.toList = true) : Calls Tryz.prog 69 #[.string s] w fun e w' => e = .returned (.bool true) ∧ Below w.heap.size w w' := by
  have := path_any s hs w; rwa [h] at this
theorem path_f (s : ByteArray) (hs : s.size ≤ maxLen) (w : World) (h : pathB s.data.toList = false) : Calls Tryz.prog 69 #[.string s] w fun e w' => e = .returned (.bool false) ∧ Below w.heap.size w w' := by
  have := path_any s hs w; rwa [h] at this

section
variable (bt : Nat) (p : ByteArray) (n : Nat) (room clock : Int) (nm sm : Option Nat) (pv : Value) (LN : FVs) (w : World)

set_option maxRecDepth 100000 in
set_option maxHeartbeats 1000000 in
theorem check_arg (hp : p.size ≤ maxLen) (h : pathB p.data.toList = false) :
    Calls Tryz.prog 75 #[.pointer (some ⟨bt, 0, none⟩), .string p, .int .i64 n] w fun r w' => r = .returned (.int .i64 1) ∧ Below w.heap.size w w' := by
  have HP := Lib.hid (path_f p hp w h)
  clear h
  go_enter Tryz.func75, Tryz.ntmps75
  go_wp2_with (go_at_call 69; refine (HP.out).mono ?_; rintro e w1 ⟨rfl, hb⟩)
  go_ret
  exact ⟨rfl, hb⟩

set_option maxRecDepth 100000 in
set_option maxHeartbeats 1000000 in
theorem check_long (hp : p.size ≤ maxLen) (h : pathB p.data.toList = true) (hn : 16777216 < n) :
    Calls Tryz.prog 75 #[.pointer (some ⟨bt, 0, none⟩), .string p, .int .i64 n] w fun r w' => r = .returned (.int .i64 3) ∧ Below w.heap.size w w' := by
  have HP := Lib.hid (path_t p hp w h)
  have e1 : decide ((16777216 : Int) < (n : Int)) = true := by simp; omega
  clear h
  go_enter Tryz.func75, Tryz.ntmps75
  go_wp2_with (go_at_call 69; refine (HP.out).mono ?_; rintro e w1 ⟨rfl, hb⟩)
  go_ret
  exact ⟨rfl, hb⟩

theorem field0 (a : ByteArray) (t : Int) (q : Option Addr) (W : World) : (Instr.field 120 (.agg #[.string a, .int .i64 t, .pointer q]) 0).run Tryz.prog W = .ok (.string a) W := by kernel_rfl

/-- The tree and its map are there, whatever was laid behind. -/
def CkAt (w0 w : World) : Prop := Below w0.heap.size w0 w
theorem CkAt.step {w0 a b : World} (h : CkAt w0 a) (k : Below a.heap.size a b) : CkAt w0 b := h.trans (k.mono h.size)
theorem MapV.below {w w' : World} {B : Nat} {m : Option Nat} {L : FVs} (h : MapV w m L) (hb : Below B w w') (hB : w.heap.size ≤ B) : MapV w' m L :=
  h.kept (fun b hm => by
    rcases h with ⟨hx, _⟩ | ⟨c, hx, hM⟩
    · rw [hx] at hm; cases hm
    · rw [hx] at hm; cases hm; exact hb.block _ (Nat.lt_of_lt_of_le hM.lt hB))

set_option maxRecDepth 100000 in
set_option maxHeartbeats 1000000 in
theorem check_there (ht : TreeC w bt room clock nm sm pv) (hM : MapV w nm LN) (hp : p.size ≤ maxLen) (h : pathB p.data.toList = true) (hn : ¬ 16777216 < n) (hbk : blocked (strip LN) p.data.toList = true) :
    Calls Tryz.prog 75 #[.pointer (some ⟨bt, 0, none⟩), .string p, .int .i64 n] w fun r w' => r = .returned (.int .i64 5) ∧ Below w.heap.size w w' := by
  have HP := Lib.hid (path_t p hp w h)
  have HC : Hid (∀ w1, CkAt w w1 → Calls Tryz.prog 101 #[.map nm, .string p, .string p] w1 fun e w' => e = .returned (.bool true) ∧ CkAt w w') := by
    intro w1 h1
    have := collide_any nm LN p p w1 (hM.below h1 (Nat.le_refl _))
    rw [blocked_drp, ← strip_blocked, hbk] at this
    exact this.mono (fun e w' h => ⟨h.1, h1.step h.2⟩)
  have HT : Hid (∀ w1, CkAt w w1 → w1.cell? ⟨bt, 2, none⟩ = some (.map nm)) := fun w1 h1 => (ht.below h1 ht.lt).cell.2.2.1
  have e1 : decide ((16777216 : Int) < (n : Int)) = false := by simp; omega
  clear h ht hM hbk hn
  go_enter Tryz.func75, Tryz.ntmps75
  go_wp2_with (first
    | (go_at_call 69; refine (HP.out).mono ?_; rintro e w1 ⟨rfl, hb⟩; have hbc : CkAt w w1 := hb; have c2 := HT.out w1 hb)
    | (go_at_call 101; refine (HC.out _ (by assumption)).mono ?_; rintro e w2 ⟨rfl, hb2⟩))
  go_ret
  exact ⟨rfl, hb2⟩

set_option maxRecDepth 100000 in
set_option maxHeartbeats 4000000 in
theorem check_rest (ht : TreeC w bt room clock nm sm pv) (hM : MapV w nm LN) (hp : p.size ≤ maxLen) (h : pathB p.data.toList = true) (hn : ¬ 16777216 < n) (hbk : blocked (strip LN) p.data.toList = false) (hu : used (strip LN) < 4611686018427387904) (_hr0 : 0 ≤ room) (_hr1 : room < 4611686018427387904) (R : Int)
    (hR : (room < (used (strip LN) : Int) - ((textOf (strip LN) p.data.toList).length : Int) + (n : Int) ∧ R = 6) ∨ (¬ room < (used (strip LN) : Int) - ((textOf (strip LN) p.data.toList).length : Int) + (n : Int) ∧ ((200 ≤ (strip LN).length ∧ (look (strip LN) p.data.toList).isSome = false ∧ R = 6) ∨ (¬ (200 ≤ (strip LN).length ∧ (look (strip LN) p.data.toList).isSome = false) ∧ R = 0)))) :
    Calls Tryz.prog 75 #[.pointer (some ⟨bt, 0, none⟩), .string p, .int .i64 n] w fun r w' => r = .returned (.int .i64 R) ∧ Below w.heap.size w w' := by
  obtain ⟨vt, vm, ve, hv⟩ : ∃ vt vm ve, fileOr LN p = (vt, vm, ve) := ⟨_, _, _, rfl⟩
  have hvt : textOf (strip LN) p.data.toList = vt := by rw [← fileOr_text, hv]
  have htu := text_used (strip LN) p.data.toList
  rw [hvt] at hR htu
  obtain ⟨U, hU⟩ : ∃ U, U = used (strip LN) := ⟨_, rfl⟩
  have HP := Lib.hid (path_t p hp w h)
  have HC : Hid (∀ w1, CkAt w w1 → Calls Tryz.prog 101 #[.map nm, .string p, .string p] w1 fun e w' => e = .returned (.bool false) ∧ CkAt w w') := by
    intro w1 h1
    have := collide_any nm LN p p w1 (hM.below h1 (Nat.le_refl _))
    rw [blocked_drp, ← strip_blocked, hbk] at this
    exact this.mono (fun e w' h => ⟨h.1, h1.step h.2⟩)
  have HT : Hid (∀ w1, CkAt w w1 → w1.cell? ⟨bt, 2, none⟩ = some (.map nm) ∧ w1.cell? ⟨bt, 0, none⟩ = some (.int .i64 room)) := fun w1 h1 => ⟨(ht.below h1 ht.lt).cell.2.2.1, (ht.below h1 ht.lt).cell.1⟩
  have HL : Hid (∀ w1, CkAt w w1 → (Instr.lookup 89 (.map nm) (.string p) false).run Tryz.prog w1 = .ok (.agg #[.string (txt vt), .int .i64 vm, .pointer (endA ve)]) w1) := by
    intro w1 h1
    have := (hM.below h1 (Nat.le_refl _)).look p hp
    rwa [hv] at this
  have HN : Hid (∀ w1, CkAt w w1 → ∀ ty, (Builtin.len_ #[89] ty #[.map nm]).run Tryz.prog w1 = .ok (.int .i64 LN.length) w1) := fun w1 h1 ty => (hM.below h1 (Nat.le_refl _)).len ty
  have HH : Hid (∀ w1, CkAt w w1 → Calls Tryz.prog 64 #[.map nm, .string p] w1 fun e w' => e = .returned (.bool (look (strip LN) p.data.toList).isSome) ∧ CkAt w w') := by
    intro w1 h1
    have := has_any nm LN p hp w1 (hM.below h1 (Nat.le_refl _))
    rw [show (look LN p.data.toList).isSome = (look (strip LN) p.data.toList).isSome by rw [strip_look]; cases look LN p.data.toList <;> rfl] at this
    exact this.mono (fun e w' h => ⟨h.1, h1.step h.2⟩)
  have HU : Hid (∀ w1, CkAt w w1 → Calls Tryz.prog 35 #[.pointer (some ⟨bt, 0, none⟩)] w1 fun e w' => e = .returned (.int .i64 (U : Nat)) ∧ w'.cell? ⟨bt, 0, none⟩ = some (.int .i64 room) ∧ w'.cell? ⟨bt, 2, none⟩ = some (.map nm) ∧ CkAt w w') := by
    intro w1 h1
    have := used_any bt nm LN w1 (ht.below h1 ht.lt) (hM.below h1 (Nat.le_refl _)) hu
    rw [hU]
    exact this.mono (fun e w' h => ⟨h.1, (ht.below (h1.step h.2) ht.lt).cell.1, (ht.below (h1.step h.2) ht.lt).cell.2.2.1, h1.step h.2⟩)
  have e1 : decide ((16777216 : Int) < (n : Int)) = false := by simp; omega
  have w1e : IntKind.i64.wrap ((U : Int) - (vt.length : Int)) = (U : Int) - (vt.length : Int) := IntWalk.i64_in _ (by omega)
  have w2e : IntKind.i64.wrap ((U : Int) - (vt.length : Int) + (n : Int)) = (U : Int) - (vt.length : Int) + (n : Int) := IntWalk.i64_in _ (by omega)
  rw [← hU] at hR
  rw [strip_length] at hR
  obtain ⟨hs, hhs⟩ : ∃ hs, hs = (look (strip LN) p.data.toList).isSome := ⟨_, rfl⟩
  rw [← hhs] at HH hR
  have W1E := Lib.hid w1e
  have W2E := Lib.hid w2e
  have HR := Lib.hid hR
  have mixed := lays169.mixed
  have hfl := field0
  clear h ht hM hbk hn htu hu hU hv hvt hR w1e w2e hhs
  go_enter Tryz.func75, Tryz.ntmps75
  go_wp2_with (first
    | (go_at_call 69; refine (HP.out).mono ?_; rintro e w1 ⟨rfl, hb⟩; have hbc : CkAt w w1 := hb; have c2 := (HT.out w1 hb).1)
    | (go_at_call 101; refine (HC.out _ (by assumption)).mono ?_; rintro e w2 ⟨rfl, hb2⟩; have hb2d : CkAt w w2.drew := below_drew hb2; have k2 := (HT.out w2.drew hb2d).1; have k0 := (HT.out w2.drew hb2d).2; have kl := HL.out w2.drew hb2d))
  go_region_held3 (fun w' => w'.cell? ⟨bt, 0, none⟩ = some (.int .i64 room) ∧ w'.cell? ⟨bt, 2, none⟩ = some (.map nm) ∧ (Instr.lookup 89 (.map nm) (.string p) false).run Tryz.prog w' = .ok (.agg #[.string (txt vt), .int .i64 vm, .pointer (endA ve)]) w' ∧ CkAt w w')
    (first | exact ⟨by assumption, by assumption, by assumption, by assumption⟩)
    (first | (go_at_call 35; refine (HU.out _ (by assumption)).mono ?_; rintro r w3 ⟨rfl, j0, j2, hb3⟩; have jl := HL.out w3 hb3))
  all_goals (
    rw [W1E.out, W2E.out]
    have hn3 := HN.out w3 hb3
    have HH3 := Lib.hid (HH.out w3 hb3)
    clear HU HT HL HN HH W1E W2E kl jl k0 k2 hfl
    rcases HR.out with ⟨h6, rfl⟩ | ⟨h6, hrest⟩
    · have e9 : decide (room < (U : Int) - (vt.length : Int) + (n : Int)) = true := decide_eq_true (by omega)
      clear HH3 HR
      go_wp2
      go_ret
      exact ⟨rfl, hb3⟩
    · have e9 : decide (room < (U : Int) - (vt.length : Int) + (n : Int)) = false := decide_eq_false (by omega)
      have h6' : ¬ room < (U : Int) - (vt.length : Int) + (n : Int) := by omega
      clear HR
      rcases hrest with ⟨h7, h8, rfl⟩ | ⟨h7, rfl⟩
      · have e10 : decide ((200 : Int) ≤ (LN.length : Int)) = true := by simp; omega
        have e11 : (200 : Int) ≤ (LN.length : Int) := by omega
        subst h8
        clear h7
        go_wp2_with (go_at_call 64; refine (HH3.out).mono ?_; rintro e w4 ⟨rfl, hb4⟩)
        go_ret
        exact ⟨rfl, hb4⟩
      · by_cases h8 : 200 ≤ LN.length
        · have e10 : decide ((200 : Int) ≤ (LN.length : Int)) = true := by simp; omega
          have e11 : (200 : Int) ≤ (LN.length : Int) := by omega
          have h9 : hs = true := by cases hs <;> simp_all
          subst h9
          clear h7 h8
          go_wp2_with (go_at_call 64; refine (HH3.out).mono ?_; rintro e w4 ⟨rfl, hb4⟩)
          go_ret
          exact ⟨rfl, hb4⟩
        · have e10 : decide ((200 : Int) ≤ (LN.length : Int)) = false := by simp; omega
          have e11 : ¬ (200 : Int) ≤ (LN.length : Int) := by omega
          clear h7 h8 HH3
          go_wp2
          go_ret
          exact ⟨rfl, hb3⟩)
end

end Go.Proofs.YtchnbnmajagpjaaGreatDoor
