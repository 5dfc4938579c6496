/-
  What Lex answers, for every text of at most a million bytes: what the plain words of chapter 8 tell. No condition.
-/
import Derived.WalkMore
import Derived.Test.YtmonbnmjbgdkoaaDoorEFst
namespace Go.Proofs.YtmonbnmjbgdkoaaDoor
open Go.RowKit Go.Shelf
attribute [local go_sem] Oper.semAt_some

theorem RowI.slice {w0 w : World} {v : Value} {l : List Item} (h : RowI w0 w v l) : ∃ o c, v = .slice o l.length c ∧ RowI w0 w (.slice o l.length c) l := by
  obtain ⟨o, c, hv, _⟩ := h.1.shape (fun _ => rfl)
  exact ⟨o, c, hv, hv ▸ h⟩
/-- What came since stays; all else may turn. -/
theorem RowI.own {w0 w w' : World} {v : Value} {l : List Item} (h : RowI w0 w v l) (hT : Turned (fun n => w.heap.size ≤ n) w w') : RowI w0 w' v l :=
  ⟨(h.1.kept hT (fun n hn hx => by omega)).wider (fun _ hn => ⟨hn.1, Nat.lt_of_lt_of_le hn.2 hT.size⟩), h.2.trans (hT.below h.2.size (fun n hn => Nat.le_trans h.2.size hn))⟩
theorem LinesAt.drop {w : World} {b o c k : Nat} {ls : List BS} (h : LinesAt w b o c ls) (hk : k < ls.length) : LinesAt w b (o + k) (c - k) (ls.drop k) :=
  ⟨h.lt, by have := h.cap; rw [List.length_drop]; omega, fun j x hj => by
    rw [List.getElem?_drop] at hj
    rw [Nat.add_assoc]
    exact h.cell (k + j) x hj⟩
theorem LexPost.ok {w w1 w' : World} {s : BS} {acc : List Item} {o : Option Addr} {c : Nat} (h : lexOf s = (acc, 0, 0)) (hb : Below w.heap.size w w1) (hR : RowI w1 w' (.slice o acc.length c) acc) : LexPost w s (.returned (.tuple #[.slice o acc.length c, .int .i64 0, .int .i64 0])) w' := by
  refine ⟨o, c, by rw [h]; rfl, by rw [h]; exact hR.reads, hb.trans (hR.back.mono hb.size)⟩
theorem LexPost.err {w w1 w' : World} {s : BS} {k : Nat} (h : lexOf s = ([], 3, k + 1)) (hb : Below w.heap.size w w1) (hR : Below w1.heap.size w1 w') : LexPost w s (.returned (.tuple #[.slice none 0 0, .int .i64 3, .int .i64 ((k : Int) + 1)])) w' := by
  refine ⟨none, 0, by rw [h]; rfl, by rw [h]; exact ReadsI.empty _ _, hb.trans (hR.mono hb.size)⟩
/-- Behind the stores into the line that the call made. -/
theorem line_set {wr w1 : World} (t : Bool) (x : ByteArray) (hb : Below (wr.alloc (.cells #[.int .i64 0, .bool false, .string ⟨#[]⟩] 28)).heap.size (wr.alloc (.cells #[.int .i64 0, .bool false, .string ⟨#[]⟩] 28)) w1) (v : Value) :
    ((((w1.setCell ⟨wr.heap.size, 0, none⟩ (.int .i64 0)).setCell ⟨wr.heap.size, 1, none⟩ (.bool t)).setCell ⟨wr.heap.size, 2, none⟩ (.string x)).setCell ⟨wr.heap.size, 0, none⟩ v).heap[wr.heap.size]? = some (.cells #[v, .bool t, .string x] 28 (0, 0)) ∧
    Turned (fun n => wr.heap.size ≤ n) wr ((((w1.setCell ⟨wr.heap.size, 0, none⟩ (.int .i64 0)).setCell ⟨wr.heap.size, 1, none⟩ (.bool t)).setCell ⟨wr.heap.size, 2, none⟩ (.string x)).setCell ⟨wr.heap.size, 0, none⟩ v) ∧
    w1.heap[wr.heap.size]? = some (.cells #[.int .i64 0, .bool false, .string ⟨#[]⟩] 28 (0, 0)) := by
  have hz : w1.heap[wr.heap.size]? = some (.cells #[.int .i64 0, .bool false, .string ⟨#[]⟩] 28 (0, 0)) := (hb.block _ (by simp)).trans (World.alloc_heap_new wr _)
  refine ⟨?_, ?_, hz⟩
  · generalize wr.heap.size = z at hz ⊢
    simp [World.setCell, Array.getElem?_modify, hz]
  · have h1 : Turned (fun n => wr.heap.size ≤ n) wr w1 := (Turned.alloc _ wr _).trans ⟨hb.os, hb.tape, hb.output, hb.size, fun k hk _ => hb.block k hk⟩
    exact (((h1.trans (Turned.setCell (X := fun n => wr.heap.size ≤ n) w1 ⟨wr.heap.size, 0, none⟩ (.int .i64 0) (Nat.le_refl _))).trans (Turned.setCell (X := fun n => wr.heap.size ≤ n) _ ⟨wr.heap.size, 1, none⟩ (.bool t) (Nat.le_refl _))).trans
      (Turned.setCell (X := fun n => wr.heap.size ≤ n) _ ⟨wr.heap.size, 2, none⟩ (.string x) (Nat.le_refl _))).trans (Turned.setCell (X := fun n => wr.heap.size ≤ n) _ ⟨wr.heap.size, 0, none⟩ v (Nat.le_refl _))

theorem zero_cells {w : World} {z : Nat} (h : w.heap[z]? = some (.cells #[.int .i64 0, .bool false, .string ⟨#[]⟩] 28 (0, 0))) :
    w.cell? ⟨z, 0, none⟩ = some (.int .i64 0) ∧ w.cell? ⟨z, 1, none⟩ = some (.bool false) ∧ w.cell? ⟨z, 2, none⟩ = some (.string ⟨#[]⟩) ∧ ∀ j, w.frozen? ⟨z, j, none⟩ = false := by
  refine ⟨?_, ?_, ?_, Lib.frozen_of_heap h⟩ <;> rw [Lib.cell_of_heap h] <;> rfl

set_option maxRecDepth 100000 in
set_option maxHeartbeats 4000000 in
theorem lex_any : LexC := by
  intro s w hs
  have HLn : Hid (Calls Tryd.prog 11 #[.string s] w fun e W' => ∃ v, e = .returned v ∧ Reads W' W'.heap.size v ((linesL s.data.toList).map txt) ∧ Below w.heap.size w W') := by
    have := lines_any s (by omega) w
    rwa [linesOf_is] at this
  have hcnt : (linesL s.data.toList).length ≤ 1000001 := by
    have h1 := lines_count s.data.toList
    have h2 : s.data.toList.countP nlB ≤ s.data.toList.length := List.countP_le_length
    rw [size_list] at h2
    omega
  have HM : Hid (∀ l ∈ linesL s.data.toList, l.length ≤ 1000000) := fun l hl => by
    have := lines_short l hl
    rw [size_list] at this
    omega
  have HN0 : Hid (linesL s.data.toList = [] → lexOf s.data.toList = ([], 0, 0)) := fun h => Sofar.done (Sofar.start _) (by rw [h]; exact Nat.le_refl _)
  have HS0 := Lib.hid (Sofar.start (linesL s.data.toList))
  have HS1 : Hid (∀ k acc, Sofar (linesL s.data.toList) k acc → (linesL s.data.toList).length ≤ k → lexOf s.data.toList = (acc, 0, 0)) := fun k acc h hk => h.done hk
  have HS2 : Hid (∀ k acc a, Sofar (linesL s.data.toList) k acc → (linesL s.data.toList)[k]? = some a → textL (tabL a) (glue a ((linesL s.data.toList).drop (k + 1))).1 ≠ [] → (1000 < (textL (tabL a) (glue a ((linesL s.data.toList).drop (k + 1))).1).length ∨ 300 ≤ acc.length) → lexOf s.data.toList = ([], 3, k + 1)) := fun k acc a h h1 h2 h3 => h.wrong h1 h2 h3
  generalize linesL s.data.toList = ls at *
  go_enter Tryd.func9, Tryd.ntmps9
  go_wp2
  go_step3
  go_wp2_with fail
  refine HLn.out.mono ?_
  rintro e w1 ⟨v, rfl, hr, hb⟩
  rcases hr with ⟨rfl, hnil⟩ | ⟨b, o, c, rfl, hlt, hc, hx⟩
  · have hls : ls = [] := by simpa using hnil
    have HE := Lib.hid (HN0.out hls)
    subst hls
    clear HLn HM HS1 HS2 HN0 hnil
    have HPost : Hid (∀ (acc : List Item) o c W, Sofar [] 0 acc → RowI w1 W (.slice o acc.length c) acc → LexPost w s.data.toList (.returned (.tuple #[.slice o acc.length c, .int .i64 0, .int .i64 0])) W) := fun acc o c W h hR =>
      LexPost.ok (by
        have h1 := h.items
        simp only [List.drop_nil, items_nil, List.append_nil] at h1
        rw [← h1]; exact HE.out) hb hR
    clear HE hb
    go_wp2
    go_step3
    go_wp2
    go_loopw [5, 6, 8, 9] (fun av wg st sz wr => ∃ (j : Int) (acc : List Item), wg = .int .i64 0 ∧ st = .int .i64 0 ∧ sz = .int .i64 j ∧ Sofar [] 0 acc ∧ RowI w1 wr av acc) (fun _ _ _ _ _ => 0)
    case atStart => exact ⟨0, [], rfl, rfl, rfl, HS0.out, RowI.start (Below.refl _ _)⟩
    case round =>
      obtain ⟨j, acc, rfl, rfl, rfl, hS, hR0⟩ := hrel
      obtain ⟨qo, qc, rfl, hR⟩ := hR0.slice
      have HQ := Lib.hid (HPost.out acc qo qc _ hS hR)
      clear hR0 hS hR
      go_wp2
      try rw [Exit.noGoto_ret]
      go_ret3
      exact HQ.out
  · rw [List.length_map] at hc ⊢
    have hLA : LinesAt w1 b o c ls := ⟨hlt, hc, fun j x hj => hx j _ (by rw [List.getElem?_map, hj]; rfl)⟩
    have HLA : Hid (∀ W, Below w1.heap.size w1 W → LinesAt W b o c ls) := fun W h => hLA.below h
    obtain ⟨n, hn⟩ : ∃ n, n = ls.length := ⟨_, rfl⟩
    have HB := Lib.hid hb
    rw [← hn] at hcnt hc
    have HN := Lib.hid hn
    have e1 : Value.slice (some ⟨b, o, none⟩) ls.length c = .slice (some ⟨b, o, none⟩) n c := by rw [hn]
    rw [e1]
    clear HLn HN0 hx hLA hb hlt e1 hn
    go_wp2
    go_step3
    go_wp2
    go_loopw [5, 6, 8, 9] (fun av wg st sz wr => ∃ (k : Nat) (j : Int) (acc : List Item), k ≤ n ∧ wg = .int .i64 0 ∧ st = .int .i64 k ∧ sz = .int .i64 j ∧ Sofar ls k acc ∧ RowI w1 wr av acc) (fun _ _ st _ _ => n - (intOf st).toNat)
    case atStart => exact ⟨0, 0, [], Nat.zero_le _, rfl, rfl, rfl, HS0.out, RowI.start (Below.refl _ _)⟩
    case round =>
      obtain ⟨k, j, acc, hk, rfl, rfl, rfl, hS, hR0⟩ := hrel
      obtain ⟨qo, qc, rfl, hR⟩ := hR0.slice
      clear hR0
      have hal := hS.len
      by_cases hlk : k < n
      · obtain ⟨a, ha⟩ : ∃ a, ls[k]? = some a := ⟨ls[k]'(by rw [← HN.out]; exact hlk), List.getElem?_eq_getElem _⟩
        obtain ⟨r, hr⟩ : ∃ r, r = ls.drop (k + 1) := ⟨_, rfl⟩
        have hd : ls.drop k = a :: r := by rw [hr]; exact drop_at ha
        have hrl : r.length = n - (k + 1) := by rw [hr, List.length_drop, HN.out]
        have hLk := (HLA.out wr hR.back).drop (k := k) (by rw [← HN.out]; exact hlk)
        rw [hd] at hLk
        have HF : Hid (∀ W, Below wr.heap.size wr W → Calls Tryd.prog 12 #[.slice (some ⟨b, o + k, none⟩) (n - k) (c - k)] W (FirstPost a r W)) := fun W h =>
          first_any b (o + k) (c - k) (n - k) a r (by omega) W (hLk.below h) (by omega) (fun l hl => HM.out l (List.mem_of_mem_drop (hd ▸ hl : l ∈ ls.drop k)))
        have hgl := glue_le r a
        obtain ⟨m, hm⟩ : ∃ m, m = (glue a r).2 := ⟨_, rfl⟩
        obtain ⟨tb, htb⟩ : ∃ tb, tb = tabL a := ⟨_, rfl⟩
        obtain ⟨X, hX⟩ : ∃ X, X = textL (tabL a) (glue a r).1 := ⟨_, rfl⟩
        have HF2 : Hid (∀ W, Below wr.heap.size wr W → Calls Tryd.prog 12 #[.slice (some ⟨b, o + k, none⟩) (n - k) (c - k)] W fun e w' => e = .returned (.tuple #[.agg #[.int .i64 0, .bool tb, .string (txt X)], .int .i64 ((m : Int) + 1)]) ∧ Below W.heap.size W w') := fun W h => by
          refine (HF.out W h).mono ?_
          rintro e w' ⟨rfl, hb⟩
          refine ⟨?_, hb⟩
          rw [hm, htb, hX]; rfl
        rw [← hm] at hgl
        have HR := Lib.hid hR
        have Hskip : Hid (X = [] → Sofar ls (k + 1 + m) acc) := fun h => by
          have := hS.skip ha (by rw [← hr, ← hX]; exact h)
          rwa [← hr, ← hm] at this
        have Hnext : Hid (X ≠ [] → X.length ≤ 1000 → acc.length < 300 → Sofar ls (k + 1 + m) (acc ++ [(k + 1, tb, X)])) := fun h1 h2 h3 => by
          have := hS.next ha (by rw [← hr, ← hX]; exact h1) (by rw [← hr, ← hX]; exact h2) h3
          rwa [← hr, ← hm, ← hX, ← htb] at this
        have Hwrong : Hid (X ≠ [] → (1000 < X.length ∨ 300 ≤ acc.length) → lexOf s.data.toList = ([], 3, k + 1)) := fun h1 h2 =>
          HS2.out k acc a hS ha (by rw [← hr, ← hX]; exact h1) (by rw [← hr, ← hX]; exact h2)
        have hkm : k + 1 + m ≤ n := by omega
        clear hm htb hX HF hLk hd hr hrl ha hS HS1 HS2 HM HLA HS0 HN hR
        by_cases hX0 : X = []
        · have hX1 : (txt X).toList = [] := by rw [txt_toL]; exact hX0
          have HSk := Lib.hid (Hskip.out hX0)
          clear Hskip Hnext Hwrong hX0
          go_wp2_with fail
          refine (HF2.out _ ((Below.refl _ wr).alloc (Nat.le_refl _) _)).mono ?_
          rintro e w2 ⟨rfl, hb2⟩
          obtain ⟨hL, hT, hz⟩ := line_set tb (txt X) hb2 (.int .i64 ((k : Int) + 1))
          obtain ⟨c0, c1, c2, fz⟩ := zero_cells hz
          have HL := Lib.hid hL
          have HT := Lib.hid hT
          clear hL hT hz hb2
          go_wp2_with fail
          go_roundw
          case rel => exact ⟨k + 1 + m, (m : Int) + 1, acc, hkm, rfl, by go_num, rfl, HSk.out, HR.out.own HT.out⟩
          case measure => simp [intOf]; omega
        · have hX1 : (txt X).toList.isEmpty = false := by rw [txt_toL]; simpa using hX0
          by_cases hlong : 1000 < X.length
          · have HQ : Hid (∀ W, Turned (fun q => wr.heap.size ≤ q) wr W → LexPost w s.data.toList (.returned (.tuple #[.slice none 0 0, .int .i64 3, .int .i64 ((k : Int) + 1)])) W) := fun W hW =>
              LexPost.err (Hwrong.out hX0 (.inl hlong)) HB.out (HR.out.own hW).back
            have hs1 : 1000 < (txt X).size := by rw [txt_size]; exact hlong
            clear Hskip Hnext Hwrong hX0
            go_wp2_with fail
            refine (HF2.out _ ((Below.refl _ wr).alloc (Nat.le_refl _) _)).mono ?_
            rintro e w2 ⟨rfl, hb2⟩
            obtain ⟨hL, hT, hz⟩ := line_set tb (txt X) hb2 (.int .i64 ((k : Int) + 1))
            obtain ⟨c0, c1, c2, fz⟩ := zero_cells hz
            have HL := Lib.hid hL
            have HT := Lib.hid hT
            clear hL hT hz hb2
            go_wp2_with fail
            try rw [Exit.noGoto_ret]
            go_ret3
            exact HQ.out _ HT.out
          · have hs1 : ¬ 1000 < (txt X).size := by rw [txt_size]; exact hlong
            by_cases hmany : acc.length < 300
            · have HSn := Lib.hid (Hnext.out hX0 (by omega) hmany)
              have hne : acc.length ≠ 300 := by omega
              clear Hskip Hnext Hwrong hX0
              go_wp2_with fail
              refine (HF2.out _ ((Below.refl _ wr).alloc (Nat.le_refl _) _)).mono ?_
              rintro e w2 ⟨rfl, hb2⟩
              obtain ⟨hL, hT, hz⟩ := line_set tb (txt X) hb2 (.int .i64 ((k : Int) + 1))
              obtain ⟨c0, c1, c2, fz⟩ := zero_cells hz
              have HL := Lib.hid hL
              have HT := Lib.hid hT
              clear hL hT hz hb2
              obtain ⟨po, pc, w3, hrun, hR3⟩ := (HR.out.own HT.out).push (k + 1, tb, X) (by omega) 23
              have e2 : (((k + 1 : Nat)) : Int) = (k : Int) + 1 := by omega
              simp only [e2, World.size_setCell] at hrun
              have HR3 := Lib.hid hR3
              clear hR3 e2
              go_wp2_with (first
                | (at_builtin; refine wpList_append_eq rfl _ _ 23 rfl _ _ _ w3 rfl rfl hrun ?_)
                | go_in)
              go_roundw
              case rel => exact ⟨k + 1 + m, (m : Int) + 1, _, hkm, rfl, by go_num, rfl, HSn.out, HR3.out⟩
              case measure => simp [intOf]; omega
            · have HQ : Hid (∀ W, Turned (fun q => wr.heap.size ≤ q) wr W → LexPost w s.data.toList (.returned (.tuple #[.slice none 0 0, .int .i64 3, .int .i64 ((k : Int) + 1)])) W) := fun W hW =>
                LexPost.err (Hwrong.out hX0 (.inr (by omega))) HB.out (HR.out.own hW).back
              have h300 : acc.length = 300 := by omega
              clear Hskip Hnext Hwrong hX0
              go_wp2_with fail
              refine (HF2.out _ ((Below.refl _ wr).alloc (Nat.le_refl _) _)).mono ?_
              rintro e w2 ⟨rfl, hb2⟩
              obtain ⟨hL, hT, hz⟩ := line_set tb (txt X) hb2 (.int .i64 ((k : Int) + 1))
              obtain ⟨c0, c1, c2, fz⟩ := zero_cells hz
              have HL := Lib.hid hL
              have HT := Lib.hid hT
              clear hL hT hz hb2
              go_wp2_with fail
              try rw [Exit.noGoto_ret]
              go_ret3
              exact HQ.out _ HT.out
      · have HQ := Lib.hid (LexPost.ok (HS1.out k acc hS (by rw [← HN.out]; omega)) HB.out hR)
        clear hR hS HS1 HS2 HS0 HM HLA HN HB
        go_wp2
        try rw [Exit.noGoto_ret]
        go_ret3
        exact HQ.out
end Go.Proofs.YtmonbnmjbgdkoaaDoor
