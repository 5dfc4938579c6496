/-
  How many bytes a tree's files have, and a map copied: for any map, nil or not.
-/
import Derived.Test.YtginlknlkbhgaaaFColl
import Derived.Test.YtginlknlkbhgaaaFBuild
namespace Go.Proofs.Ytginlknlkbhgaaa
open Go.RowKit Go.Shelf Go.Maps

def fd (v : FV) : FD := (v.1, v.2.1)
def fb (v : FV) : FV := (v.1, v.2.1, none)
def strip (L : FVs) : Fs := L.map fun y => (y.1, fd y.2)
def bare (L : FVs) : FVs := L.map fun y => (y.1, fb y.2)
theorem strip_bare (L : FVs) : strip (bare L) = strip L := by unfold strip bare; rw [List.map_map]; rfl
theorem Srt.bare {L : FVs} (h : Srt L) : Srt (bare L) := h.map fb
theorem strip_length (L : FVs) : (strip L).length = L.length := List.length_map ..
theorem strip_put (p : BS) (v : FV) (L : FVs) : strip (put (p, v) L) = put (p, (v.1, v.2.1)) (strip L) := put_map fd _ _
theorem strip_drp (p : BS) (L : FVs) : strip (drp p L) = drp p (strip L) := drp_map fd _ _
theorem strip_look (L : FVs) (p : BS) : look (strip L) p = (look L p).map fd := look_map fd _ _
theorem strip_blocked (L : FVs) (p : BS) : blocked (strip L) p = blocked L p := blocked_map fd _ _
def usedV (L : FVs) : Nat := used (strip L)
theorem usedV_nil : usedV [] = 0 := rfl
theorem usedV_rest {rest : FVs} (h : Srt rest) {p : BS} {f : FV} (hm : (p, f) ∈ rest) : usedV rest = f.1.length + usedV (drp p rest) := by
  unfold usedV
  have := used_perm ((rest_perm h hm).map (fun y : BS × FV => (y.1, fd y.2)))
  exact this

/-- The cells of a tree. -/
def TreeC (w : World) (bt : Nat) (room clock : Int) (nm sm : Option Nat) (pv : Value) : Prop :=
  w.heap[bt]? = some (.cells #[.int .i64 room, .int .i64 clock, .map nm, .map sm, pv] 67 (0, 0))
theorem TreeC.cell {w : World} {bt : Nat} {room clock : Int} {nm sm : Option Nat} {pv : Value} (h : TreeC w bt room clock nm sm pv) :
    w.cell? ⟨bt, 0, none⟩ = some (.int .i64 room) ∧ w.cell? ⟨bt, 1, none⟩ = some (.int .i64 clock) ∧ w.cell? ⟨bt, 2, none⟩ = some (.map nm) ∧ w.cell? ⟨bt, 3, none⟩ = some (.map sm) ∧ w.cell? ⟨bt, 4, none⟩ = some pv := by
  unfold TreeC at h
  refine ⟨?_, ?_, ?_, ?_, ?_⟩ <;> (rw [Lib.cell_of_heap h]; rfl)
theorem TreeC.frozen {w : World} {bt : Nat} {room clock : Int} {nm sm : Option Nat} {pv : Value} (h : TreeC w bt room clock nm sm pv) (j : Nat) : w.frozen? ⟨bt, j, none⟩ = false := Lib.frozen_of_heap h j
theorem TreeC.lt {w : World} {bt : Nat} {room clock : Int} {nm sm : Option Nat} {pv : Value} (h : TreeC w bt room clock nm sm pv) : bt < w.heap.size := (Array.getElem?_eq_some_iff.1 h).1
theorem TreeC.kept {w w' : World} {bt : Nat} {room clock : Int} {nm sm : Option Nat} {pv : Value} (h : TreeC w bt room clock nm sm pv) (hk : w'.heap[bt]? = w.heap[bt]?) : TreeC w' bt room clock nm sm pv := hk.trans h
theorem TreeC.below {w w' : World} {bt B : Nat} {room clock : Int} {nm sm : Option Nat} {pv : Value} (h : TreeC w bt room clock nm sm pv) (hb : Below B w w') (hB : bt < B) : TreeC w' bt room clock nm sm pv := h.kept (hb.block bt hB)

set_option maxRecDepth 100000 in
theorem used_nil (bt : Nat) (w : World) {room clock : Int} {sm : Option Nat} {pv : Value} (ht : TreeC w bt room clock none sm pv) : Calls Try.prog 30 #[.pointer (some ⟨bt, 0, none⟩)] w fun e w' => e = .returned (.int .i64 0) ∧ Below w.heap.size w w' := by
  have hrg := run_range_nilMap (P := Try.prog) w 64 9 85 Try.underlying64
  have hnx : ∀ ty, (Instr.next (.pointer (some ⟨w.heap.size, 0, none⟩)) false ty).run Try.prog (w.alloc (.mapIter none 0 #[] 0)) = _ := fun ty => run_next_nilMap w ty 0 0 #[]
  obtain ⟨c0, c1, c2, c3, c4⟩ := ht.cell
  clear ht
  go_enter Try.func30, Try.ntmps30
  go_wp2
  refine wp_loop_rounds 1 ?_
  rw [rounds_succ]
  go_wp2
  go_ret
  exact ⟨rfl, (Below.refl _ w).alloc (Nat.le_refl _) _⟩

set_option maxRecDepth 100000 in
set_option maxHeartbeats 2000000 in
theorem used_some (bt b : Nat) (L : FVs) (w : World) {room clock : Int} {sm : Option Nat} {pv : Value} (ht : TreeC w bt room clock (some b) sm pv) (h : IsM w b L) (hu : usedV L < 4611686018427387904) :
    Calls Try.prog 30 #[.pointer (some ⟨bt, 0, none⟩)] w fun e w' => e = .returned (.int .i64 (usedV L : Nat)) ∧ Below w.heap.size w w' := by
  have hlt := h.lt
  obtain ⟨c0, c1, c2, c3, c4⟩ := ht.cell
  clear ht
  go_enter Try.func30, Try.ntmps30
  go_wp2_with (first
    | (at_range; refine wpList_range_m _ rfl _ rfl b L rfl h ?_; intro w0 hrg0 hg0 hs0)
    | go_in)
  go_frame
  go_loopw [3] (fun n wr => ∃ (rest : FVs) (k : Nat), n = .int .i64 k ∧ k + usedV rest = usedV L ∧ RngM wr b w.heap.size L rest ∧ Below w.heap.size w wr)
    (fun _ wr => wr.rangeLeft b w.heap.size)
  case atStart => exact ⟨L, 0, rfl, by omega, hrg0, (Below.refl _ w).grown hg0 (Nat.le_refl _) (fun j hj => by cases hj)⟩
  case round =>
    obtain ⟨rest, k, rfl, hk, hrg, hbel⟩ := hrel
    go_wp2_with (first
      | (at_next; refine wpList_next_m _ rfl _ rfl b w.heap.size L rest rfl hrg ?_ ?_)
      | go_in)
    · intro h0
      have hk' : k = usedV L := by rw [h0, usedV_nil] at hk; omega
      subst hk'
      clear h0 hk
      go_wp2
      go_ret
      exact ⟨rfl, hbel⟩
    · intro q tx tm en w1 hq hql hrg1 hlt1 hg1 hs1 hen
      obtain ⟨_, _, _, _, hsr, _⟩ := id hrg
      have hb1 : Below w.heap.size w w1 := hbel.grown hg1 (by have := hbel.size; omega) (fun j hj => by cases hj; exact Nat.le_refl _)
      have hur := usedV_rest hsr hq
      rw [size_list] at hur
      have hx : k + tx.size + usedV (drp q.data.toList rest) = usedV L := by omega
      have hrg2 : RngM (w1.alloc (.cells #[.string tx, .int .i64 tm, .pointer (endA en)] 85)) b w.heap.size L (drp q.data.toList rest) :=
        hrg1.kept (Below.heap_alloc _ _ _ hrg1.isM.lt) (Below.heap_alloc _ _ _ hrg1.lt)
      have hm2 : (w1.alloc (.cells #[.string tx, .int .i64 tm, .pointer (endA en)] 85)).rangeLeft b w.heap.size = w1.rangeLeft b w.heap.size := by
        unfold World.rangeLeft
        rw [Below.heap_alloc _ _ _ hrg1.isM.lt, Below.heap_alloc _ _ _ hrg1.lt]
      clear hq hsr hs1 hur hrg1
      go_wp2
      go_roundw
      case rel => exact ⟨drp q.data.toList rest, k + tx.size, by simp, hx, hrg2, hb1.alloc (by have := hb1.size; omega) _⟩
      case measure => rw [hm2]; exact hlt1

theorem used_any (bt : Nat) (m : Option Nat) (L : FVs) (w : World) {room clock : Int} {sm : Option Nat} {pv : Value} (ht : TreeC w bt room clock m sm pv) (h : MapV w m L) (hu : usedV L < 4611686018427387904) :
    Calls Try.prog 30 #[.pointer (some ⟨bt, 0, none⟩)] w fun e w' => e = .returned (.int .i64 (usedV L : Nat)) ∧ Below w.heap.size w w' := by
  rcases h with ⟨rfl, rfl⟩ | ⟨b, rfl, h⟩
  · exact used_nil bt w ht
  · exact used_some bt b L w ht h hu

/-! ### a copy -/
def Cloned (L rest M : FVs) : Prop := Srt M ∧ M.length + rest.length = L.length ∧ ∀ y, y ∈ M ↔ y ∈ bare L ∧ look rest y.1 = none
theorem Cloned.start (L : FVs) : Cloned L L [] := by
  refine ⟨Srt.nil, by simp, fun y => ⟨fun h => by simp at h, fun h => ?_⟩⟩
  obtain ⟨z, hz, rfl⟩ := List.mem_map.1 h.1
  exact absurd rfl (look_none.1 h.2 z hz)
theorem mem_bare {L : FVs} {p t : BS} {tm : Int} {en : Option Nat} (h : (p, t, tm, en) ∈ L) : (p, t, tm, none) ∈ bare L := List.mem_map.2 ⟨_, h, rfl⟩
theorem Cloned.done {L M : FVs} (h : Cloned L [] M) (hL : Srt L) : M = bare L := srt_ext h.1 hL.bare (fun z => by rw [h.2.2 z]; exact ⟨fun h => h.1, fun h => ⟨h, rfl⟩⟩)
theorem Cloned.step {L rest M : FVs} (h : Cloned L rest M) (hL : Srt L) (hr : Srt rest) (hsub : ∀ y ∈ rest, y ∈ L) {p t : BS} {tm : Int} {en : Option Nat} (hm : (p, t, tm, en) ∈ rest) : Cloned L (drp p rest) (put (p, t, tm, none) M) := by
  have hb := mem_bare (hsub _ hm)
  have hall : ∀ y, y ∈ put (p, t, tm, none) M ↔ y ∈ bare L ∧ look (drp p rest) y.1 = none := by
    intro y
    rw [mem_put, h.2.2 y]
    by_cases hy : y.1 = p
    · rw [hy, look_drp_same]
      constructor
      · rintro (rfl | h)
        · exact ⟨hb, rfl⟩
        · exact absurd rfl h.2
      · rintro ⟨h1, _⟩
        exact .inl (hL.bare.inj h1 hb hy)
    · rw [look_drp_other hr hy]
      constructor
      · rintro (rfl | h)
        · exact absurd rfl hy
        · exact h.1
      · exact fun h => .inr ⟨h, hy⟩
  have hs := h.1.put (p, t, tm, none)
  refine ⟨hs, ?_, hall⟩
  have hM : look M p = none := look_none.2 (fun y hy e => by
    have := ((h.2.2 y).1 hy).2
    rw [e, look_of_mem hr hm] at this
    cases this)
  have h1 := put_length h.1 p ((t, tm, none) : FV)
  rw [hM] at h1
  have h2 := (rest_perm hr hm).length_eq
  have h3 := h.2.1
  simp at h1 h2
  omega

theorem clone_nil (w : World) : Calls Try.prog 34 #[.map none] w fun e w' => e = .returned (.map (some w.heap.size)) ∧ IsM w' w.heap.size [] ∧ Below w.heap.size w w' := by
  have hmm := @run_makeMap Try.prog
  have hrg := run_range_nilMap (P := Try.prog) (w.alloc (.map #[] 0)) 64 9 85 Try.underlying64
  have hnx : ∀ ty, (Instr.next (.pointer (some ⟨(w.alloc (.map #[] 0)).heap.size, 0, none⟩)) false ty).run Try.prog ((w.alloc (.map #[] 0)).alloc (.mapIter none 0 #[] 0)) = _ := fun ty => run_next_nilMap _ ty 0 0 #[]
  have e1 : (w.alloc (.map #[] 0)).heap.size = w.heap.size + 1 := by simp
  rw [e1] at hrg hnx
  go_enter Try.func34, Try.ntmps34
  go_wp2
  refine wp_loop_rounds 1 ?_
  rw [rounds_succ]
  go_wp2
  go_ret
  exact ⟨rfl, (IsM.made w).kept (Below.heap_alloc _ _ _ (by simp)), ((Below.refl _ _).alloc (Nat.le_refl _) _).alloc (by simp) _⟩

set_option maxRecDepth 100000 in
set_option maxHeartbeats 2000000 in
theorem clone_some (b : Nat) (L : FVs) (w : World) (h : IsM w b L) (hn : L.length < 4611686018427387904) :
    Calls Try.prog 34 #[.map (some b)] w fun e w' => e = .returned (.map (some w.heap.size)) ∧ IsM w' w.heap.size (bare L) ∧ Below w.heap.size w w' := by
  have hmm := @run_makeMap Try.prog
  have hbl := h.lt
  have e1 : (w.alloc (.map #[] 0)).heap.size = w.heap.size + 1 := by simp
  have hI := IsM.made w
  have hA : IsM (w.alloc (.map #[] 0)) b L := h.kept (Below.heap_alloc _ _ _ hbl)
  go_enter Try.func34, Try.ntmps34
  go_wp2_with (first
    | (at_range; refine wpList_range_m _ rfl _ rfl b L rfl hA ?_; intro w0 hrg0 hg0 hs0)
    | go_in)
  go_frame
  rw [e1] at hrg0 hs0 ⊢
  go_loopw [4] (fun _ wr => ∃ rest M : FVs, RngM wr b (w.heap.size + 1) L rest ∧ IsM wr w.heap.size M ∧ Hid (Cloned L rest M) ∧ Below w.heap.size w wr)
    (fun _ wr => wr.rangeLeft b (w.heap.size + 1))
  case atStart =>
    exact ⟨L, [], hrg0, hI.kept (hg0.block _ (by simp) (by simp)), Cloned.start L, ((Below.refl _ _).alloc (Nat.le_refl _) _).grown hg0 (by simp) (fun j hj => by cases hj)⟩
  case round =>
    obtain ⟨rest, M, hrg, hM, HC, hnx⟩ := hrel
    go_wp2_with (first
      | (at_next; refine wpList_next_m _ rfl _ rfl b (w.heap.size + 1) L rest rfl hrg ?_ ?_)
      | go_in)
    · intro h0
      have hM' : IsM wr w.heap.size (bare L) := by
        have hd := HC.out
        rw [h0] at hd
        rw [← hd.done h.2]; exact hM
      clear h0 hM
      go_wp2
      go_ret
      exact ⟨rfl, hM', hnx⟩
    · intro q tx tm en w1 hq hql hrg1 hlt1 hg1 hs1 hen
      obtain ⟨_, _, _, _, hsr, hsub, _⟩ := id hrg
      have hM1 : IsM w1 w.heap.size M := hM.kept (hg1.block _ hM.lt (by simp))
      have HC1 := Lib.hid (HC.out.step h.2 hsr hsub hq)
      have hMl : M.length < maxLen := by have := HC.out.2.1; unfold maxLen; omega
      have hnx1 := hnx.grown hg1 hnx.size (fun j hj => by cases hj; exact Nat.le_succ _)
      have hrg2 : RngM (w1.alloc (.cells #[.string tx, .int .i64 tm, .pointer (endA en)] 85)) b (w.heap.size + 1) L (drp q.data.toList rest) :=
        hrg1.kept (Below.heap_alloc _ _ _ hrg1.isM.lt) (Below.heap_alloc _ _ _ hrg1.lt)
      have hm2 : (w1.alloc (.cells #[.string tx, .int .i64 tm, .pointer (endA en)] 85)).rangeLeft b (w.heap.size + 1) = w1.rangeLeft b (w.heap.size + 1) := by
        unfold World.rangeLeft
        rw [Below.heap_alloc _ _ _ hrg1.isM.lt, Below.heap_alloc _ _ _ hrg1.lt]
      have hM2 : IsM (w1.alloc (.cells #[.string tx, .int .i64 tm, .pointer (endA en)] 85)) w.heap.size M := hM1.kept (Below.heap_alloc _ _ _ hM1.lt)
      have hnx2 := hnx1.alloc (by have := hnx1.size; omega) (.cells #[.string tx, .int .i64 tm, .pointer (endA en)] 85)
      clear hq hsr hs1 hrg1 hM hM1 hsub
      go_wp2_with (first
        | (at_mapUpdate; refine wpList_store_m _ rfl _ _ _ rfl w.heap.size M rfl hM2 hMl q hql (tx.data.toList, tm, none) rfl rfl ?_; intro w2 hM3 hturn; go_frame)
        | go_in)
      have hb3 : w2.heap[b]? = _ := hturn.grown.block b (by have := hnx1.size; simp; omega) (fun e => by have := Option.some.inj e; omega)
      have hr3 : w2.heap[w.heap.size + 1]? = _ := hturn.grown.block (w.heap.size + 1) hrg2.lt (fun e => by have := Option.some.inj e; omega)
      have hrg3 := hrg2.kept hb3 hr3
      have hm3 : w2.rangeLeft b (w.heap.size + 1) = w1.rangeLeft b (w.heap.size + 1) := by rw [← hm2]; unfold World.rangeLeft; rw [hb3, hr3]
      go_roundw
      case rel => exact ⟨_, _, hrg3, hM3, HC1, hnx2.grown hturn.grown (by simp; have := hnx1.size; omega) (fun j hj => by cases hj; exact Nat.le_refl _)⟩
      case measure => rw [hm3]; exact hlt1

theorem clone_any (m : Option Nat) (L : FVs) (w : World) (h : MapV w m L) (hn : L.length < 4611686018427387904) :
    Calls Try.prog 34 #[.map m] w fun e w' => e = .returned (.map (some w.heap.size)) ∧ IsM w' w.heap.size (bare L) ∧ Below w.heap.size w w' := by
  rcases h with ⟨rfl, rfl⟩ | ⟨b, rfl, h⟩
  · exact clone_nil w
  · exact clone_some b L w h hn

end Go.Proofs.Ytginlknlkbhgaaa
