/-
  Lines and nodes of chapter 9, as they lie in memory; what a call of Parse, of Cut and of Name must tell. No condition.
-/
import Derived.Test.YtldddecaeloohaaDoorPNs
import Derived.Test.YtldddecaeloohaaDoorPC
import Derived.Test.YtldddecaeloohaaDoorPG
import Derived.Test.YtldddecaeloohaaDoorEI
namespace Go.Proofs.YtldddecaeloohaaDoor
open Go.RowKit Go.Shelf

/-- The value v reads as the lines l, out of blocks below B. -/
def ReadsL (W : World) (B : Nat) (v : Value) (l : List LineI) : Prop :=
  ∃ o c, v = .slice o l.length c ∧ ∀ (j : Nat) x, l[j]? = some x → ∃ b f, o = some ⟨b, f, none⟩ ∧ b < B ∧ l.length ≤ c ∧ W.cell? ⟨b, f + j * 3, none⟩ = some (.int .i64 x.1) ∧ W.cell? ⟨b, f + j * 3 + 1, none⟩ = some (.bool x.2.1) ∧ W.cell? ⟨b, f + j * 3 + 2, none⟩ = some (.string (txt x.2.2))
theorem ReadsL.below {W W' : World} {B B' : Nat} {v : Value} {l : List LineI} (h : ReadsL W B v l) (hb : Below B W W') (hB : B ≤ B') : ReadsL W' B' v l := by
  obtain ⟨o, c, hv, hx⟩ := h
  refine ⟨o, c, hv, fun j x hj => ?_⟩
  obtain ⟨b, f, h1, h2, h3, h4, h5, h6⟩ := hx j x hj
  exact ⟨b, f, h1, by omega, h3, (hb.cell (p := ⟨b, f + j * 3, none⟩) h2).trans h4, (hb.cell (p := ⟨b, f + j * 3 + 1, none⟩) h2).trans h5, (hb.cell (p := ⟨b, f + j * 3 + 2, none⟩) h2).trans h6⟩
/-- The lines of a makefile's text. -/
theorem ReadsI.lines {W : World} {B : Nat} {v : Value} {l : List Item} (h : ReadsI W B v l) : ReadsL W B v (l.map toLine) := by
  obtain ⟨o, c, hv, hx⟩ := h
  refine ⟨o, c, by rw [List.length_map]; exact hv, fun j x hj => ?_⟩
  rw [List.getElem?_map] at hj
  obtain ⟨y, hy, rfl⟩ := Option.map_eq_some_iff.1 hj
  obtain ⟨b, f, h1, h2, h3, h4, h5, h6⟩ := hx j y hy
  exact ⟨b, f, h1, h2, by rw [List.length_map]; exact h3, h4, h5, h6⟩
/-- The value v reads as the nodes l, out of blocks below B. -/
def ReadsN (W : World) (B : Nat) (v : Value) (l : List Nd) : Prop :=
  ∃ o c, v = .slice o l.length c ∧ ∀ (j : Nat) x, l[j]? = some x → ∃ b f rv, o = some ⟨b, f, none⟩ ∧ b < B ∧ l.length ≤ c ∧ (∀ i, i < 10 → W.cell? ⟨b, f + (j * 10 + i), none⟩ = (encN (x, rv))[i]?) ∧ ReadsO W B rv (x.recipe.map txt)
theorem ReadsN.below {W W' : World} {B B' : Nat} {v : Value} {l : List Nd} (h : ReadsN W B v l) (hb : Below B W W') (hB : B ≤ B') : ReadsN W' B' v l := by
  obtain ⟨o, c, hv, hx⟩ := h
  refine ⟨o, c, hv, fun j x hj => ?_⟩
  obtain ⟨b, f, rv, h1, h2, h3, h4, h5⟩ := hx j x hj
  exact ⟨b, f, rv, h1, by omega, h3, fun i hi => (hb.cell (p := ⟨b, f + (j * 10 + i), none⟩) h2).trans (h4 i hi), h5.below hb hB⟩
theorem ReadsN.empty (W : World) (B : Nat) : ReadsN W B (.slice none 0 0) [] := ⟨_, _, rfl, fun j x h => by simp at h⟩
theorem PSt.reads {E : TypeId} {w0 w : World} {ov sv : Value} {nds : List NV} {op : List Bool} {Ls : List Own} (h : PSt E w0 ov sv nds op Ls w) : ReadsN w w.heap.size ov (nds.map (·.1)) := by
  obtain ⟨o, c, hv, h1, h2⟩ := h.nodes
  refine ⟨o, c, by rw [List.length_map]; exact hv, fun j x hj => ?_⟩
  rw [List.getElem?_map] at hj
  obtain ⟨y, hy, rfl⟩ := Option.map_eq_some_iff.1 hj
  obtain ⟨g, hg, hl, _, hc⟩ := h2 j y hy
  refine ⟨g, 0, y.2, hg, hl, by rw [List.length_map]; exact h1, fun i hi => by rw [Nat.zero_add]; exact hc i hi, ?_⟩
  have hm : recO y ∈ oRow E 10 encN ov nds :: oRow 3 1 encZ sv (openL op) :: (nds.map recO ++ Ls) := List.mem_cons_of_mem _ (List.mem_cons_of_mem _ (List.mem_append_left _ (List.mem_map.2 ⟨y, List.mem_of_getElem? hy, rfl⟩)))
  obtain ⟨o2, c2, hv2, h3, h4⟩ := h.1.rowShape (E := 9) (k := 1) (enc := encS) (v := y.2) (l := y.1.recipe) hm (fun _ => rfl)
  refine ⟨o2, c2, by rw [List.length_map]; exact hv2, fun k s hk => ?_⟩
  rw [List.getElem?_map] at hk
  obtain ⟨z, hz, rfl⟩ := Option.map_eq_some_iff.1 hk
  obtain ⟨g2, hg2, hl2, _, hc2⟩ := h4 k z hz
  have := hc2 0 (by omega)
  rw [Nat.mul_one, Nat.add_zero] at this
  exact ⟨g2, 0, hg2, hl2, by rw [List.length_map]; exact h3, by rw [Nat.zero_add]; exact this⟩
/-- What a call of Parse tells. -/
def ParsePost (k : Parsed) (w : World) (e : Ending) (w' : World) : Prop :=
  ∃ o c, e = .returned (.tuple #[.slice o k.1.length c, .int .i64 k.2.1, .int .i64 k.2.2]) ∧ ReadsN w' w'.heap.size (.slice o k.1.length c) k.1 ∧ Below w.heap.size w w'
theorem ParsePost.bad {w w' : World} {k : Parsed} {e no : Int} (h : k = badL e no) (hb : Below w.heap.size w w') : ParsePost k w (.returned (.tuple #[.slice none 0 0, .int .i64 e, .int .i64 no])) w' := by
  rw [h]
  exact ⟨none, 0, rfl, ReadsN.empty _ _, hb⟩
theorem ParsePost.right {E : TypeId} {w w1 w' : World} {k : Parsed} {o : Option Addr} {c : Nat} {sv : Value} {nds : List NV} {op : List Bool} {Ls : List Own} (h : k = (nds.map (·.1), 0, 0)) (hb : Below w.heap.size w w1) (hS : PSt E w1 (.slice o nds.length c) sv nds op Ls w') : ParsePost k w (.returned (.tuple #[.slice o nds.length c, .int .i64 0, .int .i64 0])) w' := by
  rw [h]
  refine ⟨o, c, by simp, ?_, hb.trans (hS.back.mono hb.size)⟩
  have := hS.reads
  simpa using this
/-- That each call of the program's Parse, Cut and Name tells so. -/
def ParseC : Prop := ∀ (v : Value) (l : List LineI) (w : World), ReadsL w w.heap.size v l → l.length ≤ 1000 → (∀ x ∈ l, x.2.2.length ≤ 100000) → Calls Tryd.prog 12 #[v] w (ParsePost (parseP l) w)
def CutC : Prop := ∀ (v : Value) (sg : List BS) (s : ByteArray) (w : World), ReadsO w w.heap.size v (sg.map txt) → sg.length ≤ 100 → (∀ x ∈ sg, x.length ≤ 10000) → s.size ≤ 100000 → Calls Tryd.prog 19 #[.string s, v] w (Cut3Post (cutOf sg s.data.toList) w)
def NameC : Prop := ∀ (s : ByteArray) (w : World), s.size ≤ 100000 → Calls Tryd.prog 17 #[.string s] w fun e w' => e = .returned (.bool (nameB s.data.toList)) ∧ Below w.heap.size w w'
end Go.Proofs.YtldddecaeloohaaDoor
