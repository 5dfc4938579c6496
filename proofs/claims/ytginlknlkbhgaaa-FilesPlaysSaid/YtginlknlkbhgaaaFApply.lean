/-
  A change, done to a map of files with their ends that grow: for any map, any change; which blocks turn. No condition but that texts stay below 2^40 bytes.
-/
import Derived.Test.YtginlknlkbhgaaaFExt
namespace Go.Proofs.Ytginlknlkbhgaaa
open Go.RowKit Go.Shelf Go.Maps

/-- The ends of the files are builders, each in blocks of its own, that are of Y, and none is the map's. -/
def EndsR (w : World) (Y : Nat → Prop) (m : Option Nat) (L : FVs) : Prop :=
  ∃ h : Nat → Nat, (∀ y ∈ L, ∀ e, y.2.2.2 = some e → BuiltIn w (fun n => Y n ∧ h n = e ∧ m ≠ some n) e y.2.1) ∧ ∀ y ∈ L, ∀ z ∈ L, ∀ e, y.2.2.2 = some e → z.2.2.2 = some e → y = z
/-- m is a map of files (or nil), all of whose blocks are of Y. -/
structure NowR (w : World) (Y : Nat → Prop) (m : Option Nat) (L : FVs) : Prop where
  own : ∀ b, m = some b → Y b
  map : MapV w m L
  lt : ∀ n, Y n → n < w.heap.size
  ends : EndsR w Y m L

theorem EndsR.kept {w w' : World} {Y X : Nat → Prop} {m : Option Nat} {L : FVs} (h : EndsR w Y m L) (hT : Turned X w w') (hd : ∀ n, Y n → X n → m = some n) : EndsR w' Y m L := by
  obtain ⟨f, h1, h2⟩ := h
  exact ⟨f, fun y hy e he => (h1 y hy e he).kept hT (fun n hn hx => hn.2.2 (hd n hn.1 hx)) (fun _ hn _ => hn), h2⟩
theorem MapV.kept {w w' : World} {m : Option Nat} {L : FVs} (h : MapV w m L) (hk : ∀ b, m = some b → w'.heap[b]? = w.heap[b]?) : MapV w' m L := by
  rcases h with h | ⟨b, rfl, h⟩
  · exact .inl h
  · exact .inr ⟨b, rfl, h.kept (hk b rfl)⟩
theorem NowR.kept {w w' : World} {Y X : Nat → Prop} {m : Option Nat} {L : FVs} (h : NowR w Y m L) (hT : Turned X w w') (hd : ∀ n, Y n → ¬ X n) : NowR w' Y m L :=
  ⟨h.own, h.map.kept (fun b hb => hT.block b (h.lt b (h.own b hb)) (hd b (h.own b hb))), fun n hn => Nat.lt_of_lt_of_le (h.lt n hn) hT.size, h.ends.kept hT (fun n hn hx => absurd hx (hd n hn))⟩
theorem NowR.isM {w : World} {Y : Nat → Prop} {b : Nat} {L : FVs} (h : NowR w Y (some b) L) : IsM w b L := by
  rcases h.map with ⟨h1, _⟩ | ⟨c, h1, h2⟩
  · cases h1
  · cases h1; exact h2
theorem NowR.made (w : World) : NowR (w.alloc (.map #[] 0)) (fun n => n = w.heap.size) (some w.heap.size) [] :=
  ⟨fun b hb => (Option.some.inj hb).symm, .inr ⟨_, rfl, IsM.made w⟩, fun n hn => by rw [hn]; simp, fun _ => 0, by simp, by simp⟩
theorem bare_end {L : FVs} {y : BS × FV} (hy : y ∈ bare L) : y.2.2.2 = none := by
  obtain ⟨z, _, rfl⟩ := List.mem_map.1 hy
  rfl
theorem NowR.bare {w : World} {b : Nat} {L : FVs} (h : IsM w b (bare L)) : NowR w (fun n => n = b) (some b) (bare L) :=
  ⟨fun c hc => (Option.some.inj hc).symm, .inr ⟨_, rfl, h⟩, fun n hn => by rw [hn]; exact h.lt, fun _ => 0, (fun y hy e he => by rw [bare_end hy] at he; cases he), (fun y hy z _ e he _ => by rw [bare_end hy] at he; cases he)⟩
theorem NowR.wider {w : World} {Y Z : Nat → Prop} {m : Option Nat} {L : FVs} (h : NowR w Y m L) (hYZ : ∀ n, Y n → Z n) (hZ : ∀ n, Z n → n < w.heap.size) : NowR w Z m L := by
  obtain ⟨h1, h2, h3, f, h4, h5⟩ := h
  exact ⟨fun b hb => hYZ b (h1 b hb), h2, hZ, f, fun y hy e he => (h4 y hy e he).kept (Turned.refl (fun _ => False) w) (fun _ _ => id) (fun n hn _ => ⟨hYZ n hn.1, hn.2⟩), h5⟩

/-- The map has turned, and its files with ends are files that there were. -/
theorem NowR.mapped {w w' : World} {Y : Nat → Prop} {b : Nat} {L L' : FVs} (h : NowR w Y (some b) L) (hT : Turned (fun n => n = b) w w') (hM : IsM w' b L') (σ : BS → BS)
    (h1 : ∀ y ∈ L', ∀ e, y.2.2.2 = some e → (σ y.1, y.2) ∈ L) (h2 : ∀ y ∈ L', ∀ z ∈ L', σ y.1 = σ z.1 → y.1 = z.1) : NowR w' Y (some b) L' := by
  have hs := hM.2
  refine ⟨h.own, .inr ⟨b, rfl, hM⟩, fun n hn => Nat.lt_of_lt_of_le (h.lt n hn) hT.size, ?_⟩
  obtain ⟨f, h3, h4⟩ := h.ends.kept hT (fun n _ hx => by rw [hx])
  refine ⟨f, fun y hy e he => h3 _ (h1 y hy e he) e he, fun y hy z hz e he he' => ?_⟩
  have := h4 _ (h1 y hy e he) _ (h1 z hz e he') e he he'
  exact hs.inj hy hz (h2 y hy z hz (congrArg Prod.fst this))

/-- What a change leaves. -/
def Applied (w : World) (Y : Nat → Prop) (b : Nat) (l : Fs) (c : Ch) (w' : World) : Prop :=
  ∃ Y' L', NowR w' Y' (some b) L' ∧ strip L' = after l c ∧ Turned Y w w' ∧ ∀ n, Y' n → Y n ∨ w.heap.size ≤ n

theorem turned_map {w w' : World} {b : Nat} (h : w.mapTurned w' b) : Turned (fun n => n = b) w w' := turned_grown h.grown (fun _ hg => (Option.some.inj hg).symm)

set_option maxRecDepth 100000 in
set_option maxHeartbeats 1000000 in
theorem apply_write (b : Nat) (Y : Nat → Prop) (L : FVs) (p q s : ByteArray) (t : Int) (w : World) (h : NowR w Y (some b) L) (hp : p.size ≤ maxLen) (hn : L.length < maxLen) :
    Calls Try.prog 38 #[.map (some b), .agg #[.int .i64 0, .string p, .string q, .string s, .int .i64 t]] w fun r w' =>
      r = .returned (.tuple #[]) ∧ Applied w Y b (strip L) (0, p.data.toList, s.data.toList, t) w' := by
  have hM := h.isM
  have hM1 : IsM (w.alloc (.cells #[.int .i64 0, .string p, .string q, .string s, .int .i64 t] 72)) b L := hM.kept (Below.heap_alloc _ _ _ hM.lt)
  have HN := Lib.hid h
  clear h hM
  go_enter Try.func38, Try.ntmps38
  go_wp2_with (first
    | (at_mapUpdate; refine wpList_store_m _ rfl _ _ _ rfl b L rfl hM1 hn p hp (s.data.toList, t, none) rfl rfl ?_; intro w2 hM2 hturn; go_frame)
    | go_in)
  go_end0
  have hT : Turned (fun n => n = b) w w2 := (Turned.alloc _ w _).trans (turned_map hturn)
  refine ⟨rfl, Y, _, HN.out.mapped hT hM2 id (fun y hy e he => ?_) (fun _ _ _ _ => id), ?_, hT.wider (fun n hn => by rw [hn]; exact HN.out.own b rfl), fun _ => .inl⟩
  · rcases mem_put.1 hy with rfl | hy
    · cases he
    · exact hy.1
  · rw [strip_put]; rfl

set_option maxRecDepth 100000 in
set_option maxHeartbeats 1000000 in
theorem apply_remove (b : Nat) (Y : Nat → Prop) (L : FVs) (p q s : ByteArray) (t : Int) (w : World) (h : NowR w Y (some b) L) (hp : p.size ≤ maxLen) (x : BS × Int) :
    Calls Try.prog 38 #[.map (some b), .agg #[.int .i64 2, .string p, .string q, .string s, .int .i64 t]] w fun r w' =>
      r = .returned (.tuple #[]) ∧ Applied w Y b (strip L) (2, p.data.toList, x) w' := by
  have hM := h.isM
  have hM1 : IsM (w.alloc (.cells #[.int .i64 2, .string p, .string q, .string s, .int .i64 t] 72)) b L := hM.kept (Below.heap_alloc _ _ _ hM.lt)
  have HN := Lib.hid h
  clear h hM
  go_enter Try.func38, Try.ntmps38
  go_wp2_with (first
    | (at_delete; refine wpList_delete_m _ rfl _ _ rfl b L rfl hM1 p hp rfl ?_; intro w2 hM2 hturn; go_frame)
    | go_in)
  go_end0
  have hT : Turned (fun n => n = b) w w2 := (Turned.alloc _ w _).trans (turned_map hturn)
  refine ⟨rfl, Y, _, HN.out.mapped hT hM2 id (fun y hy e he => (mem_drp.1 hy).1) (fun _ _ _ _ => id), ?_, hT.wider (fun n hn => by rw [hn]; exact HN.out.own b rfl), fun _ => .inl⟩
  rw [strip_drp]; rfl

theorem fileOr_some {L : FVs} {p : ByteArray} {v : FV} (h : look L p.data.toList = some v) : fileOr L p = v := by unfold fileOr; rw [h]; rfl

set_option maxRecDepth 100000 in
set_option maxHeartbeats 1000000 in
theorem apply_rename (b : Nat) (Y : Nat → Prop) (L : FVs) (p q s : ByteArray) (t : Int) (w : World) (h : NowR w Y (some b) L) (hp : p.size ≤ maxLen) (hq : q.size ≤ maxLen) (hn : L.length < maxLen) (hl : (look L p.data.toList).isSome = true) :
    Calls Try.prog 38 #[.map (some b), .agg #[.int .i64 3, .string p, .string q, .string s, .int .i64 t]] w fun r w' =>
      r = .returned (.tuple #[]) ∧ Applied w Y b (strip L) (3, p.data.toList, q.data.toList, t) w' := by
  obtain ⟨v, hv⟩ := Option.isSome_iff_exists.1 hl
  obtain ⟨vt, vm, ve⟩ := v
  have hM := h.isM
  have hM1 : IsM (w.alloc (.cells #[.int .i64 3, .string p, .string q, .string s, .int .i64 t] 72)) b L := hM.kept (Below.heap_alloc _ _ _ hM.lt)
  have hrun := MapV.look (.inr ⟨b, rfl, hM1⟩) p hp
  rw [fileOr_some hv] at hrun
  have hrun' : (Instr.lookup 64 (.map (some b)) (.string p) false).run Try.prog (w.alloc (.cells #[.int .i64 3, .string p, .string q, .string s, .int .i64 t] 72)) = .ok (.agg #[.string (txt vt), .int .i64 vm, .pointer (endA ve)]) (w.alloc (.cells #[.int .i64 3, .string p, .string q, .string s, .int .i64 t] 72)) := hrun
  have hM2 : IsM ((w.alloc (.cells #[.int .i64 3, .string p, .string q, .string s, .int .i64 t] 72)).alloc (.cells #[.string (txt vt), .int .i64 vm, .pointer (endA ve)] 85)) b L := hM1.kept (Below.heap_alloc _ _ _ hM1.lt)
  have x1 : ((w.alloc (.cells #[.int .i64 3, .string p, .string q, .string s, .int .i64 t] 72)).alloc (.cells #[.string (txt vt), .int .i64 vm, .pointer (endA ve)] 85)).heap[w.heap.size]? = some (.cells #[.int .i64 3, .string p, .string q, .string s, .int .i64 t] 72 (0, 0)) := (Below.heap_alloc _ _ _ (by simp)).trans (World.alloc_heap_new w _)
  have x2 : ((w.alloc (.cells #[.int .i64 3, .string p, .string q, .string s, .int .i64 t] 72)).alloc (.cells #[.string (txt vt), .int .i64 vm, .pointer (endA ve)] 85)).heap[w.heap.size + 1]? = some (.cells #[.string (txt vt), .int .i64 vm, .pointer (endA ve)] 85 (0, 0)) := by
    have := World.alloc_heap_new (w.alloc (.cells #[.int .i64 3, .string p, .string q, .string s, .int .i64 t] 72)) (.cells #[.string (txt vt), .int .i64 vm, .pointer (endA ve)] 85)
    rwa [World.size_alloc] at this
  have hbl := hM.lt
  have HN := Lib.hid h
  have HV := Lib.hid hv
  have hnd : (drp p.data.toList L).length < maxLen := Nat.lt_of_le_of_lt (List.length_filter_le _ _) hn
  clear h hM hrun hl hv hM1
  go_enter Try.func38, Try.ntmps38
  go_wp2_with (at_delete; refine wpList_delete_m _ rfl _ _ rfl b L rfl hM2 p hp rfl ?_)
  intro w3 hM3 hturn
  have x3 := (turned_map hturn).cells x1 (by omega)
  have x4 := (turned_map hturn).cells x2 (by omega)
  have k0 : w3.cell? ⟨w.heap.size, 0, none⟩ = some (.int .i64 3) := by rw [Lib.cell_of_heap x3]; rfl
  have k2 : w3.cell? ⟨w.heap.size, 2, none⟩ = some (.string q) := by rw [Lib.cell_of_heap x3]; rfl
  have j0 : w3.cell? ⟨w.heap.size + 1, 0, none⟩ = some (.string (txt vt)) := by rw [Lib.cell_of_heap x4]; rfl
  have j1 : w3.cell? ⟨w.heap.size + 1, 1, none⟩ = some (.int .i64 vm) := by rw [Lib.cell_of_heap x4]; rfl
  have j2 : w3.cell? ⟨w.heap.size + 1, 2, none⟩ = some (.pointer (endA ve)) := by rw [Lib.cell_of_heap x4]; rfl
  have HT : Hid (Turned (fun n => n = b) w w3) := ((Turned.alloc _ w _).trans (Turned.alloc _ _ _)).trans (turned_map hturn)
  clear x1 x2 x3 x4 hturn hM2 hrun'
  go_wp2_with (first
    | (at_mapUpdate; refine wpList_store_m _ rfl _ _ _ rfl b _ rfl hM3 hnd q hq (vt, vm, ve) rfl rfl ?_; intro w4 hM4 hturn; go_frame)
    | go_in)
  go_end0
  have hT : Turned (fun n => n = b) w w4 := HT.out.trans (turned_map hturn)
  have hL : Srt L := HN.out.isM.2
  refine ⟨rfl, Y, _, HN.out.mapped hT hM4 (fun k => if k = q.data.toList then p.data.toList else k) (fun y hy e he => ?_) (fun y hy z hz => ?_), ?_, hT.wider (fun n hn => by rw [hn]; exact HN.out.own b rfl), fun _ => .inl⟩
  · rcases mem_put.1 hy with rfl | hy
    · rw [if_pos rfl]; exact look_mem HV.out
    · rw [if_neg hy.2]; exact (mem_drp.1 hy.1).1
  · show (if _ then _ else _) = (if _ then _ else _) → _
    have key : ∀ u ∈ put (q.data.toList, vt, vm, ve) (drp p.data.toList L), u.1 ≠ q.data.toList → u.1 ≠ p.data.toList := by
      intro u hu hne
      rcases mem_put.1 hu with rfl | hu
      · exact absurd rfl hne
      · exact (mem_drp.1 hu.1).2
    by_cases hyq : y.1 = q.data.toList <;> by_cases hzq : z.1 = q.data.toList
    · intro _; rw [hyq, hzq]
    · rw [if_pos hyq, if_neg hzq]; exact fun e => absurd e.symm (key z hz hzq)
    · rw [if_neg hyq, if_pos hzq]; exact fun e => absurd e (key y hy hyq)
    · rw [if_neg hyq, if_neg hzq]; exact id
  · rw [strip_put, strip_drp]
    unfold after
    have : look (strip L) p.data.toList = some (vt, vm) := by rw [strip_look, HV.out]; rfl
    simp only [Ch.kind, Ch.path, Ch.arg, this]
    rfl

end Go.Proofs.Ytginlknlkbhgaaa
