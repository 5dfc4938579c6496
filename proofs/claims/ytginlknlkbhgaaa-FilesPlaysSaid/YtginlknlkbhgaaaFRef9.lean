/-
  What the document's Crash leaves of its tree.
-/
import Derived.Test.YtginlknlkbhgaaaFRef8
namespace Go.Proofs.Ytginlknlkbhgaaa
open Go.RowKit Go.Shelf Go.Maps

theorem torn_rc {c : Ch} {part : Int} {kd : Int} {p s : ByteArray} {t : Int} (hch : rcCells c = [.int .i64 kd, .string p, .string s, .int .i64 t]) : rcCells (tornC c part) = [.int .i64 kd, .string p, .string (txt (s.data.toList.take part.toNat)), .int .i64 t] := by
  obtain ⟨k, pp, a, tt⟩ := c
  unfold rcCells at hch ⊢
  simp only [Ch.kind, Ch.path, Ch.arg, Ch.time, List.cons.injEq, Value.int.injEq, Value.string.injEq, true_and, and_true] at hch
  obtain ⟨h1, h2, h3, h4⟩ := hch
  show [Value.int .i64 ((k + 1 : Nat) : Int), .string (txt pp), .string (txt (a.take part.toNat)), .int .i64 (if k ≤ 1 then tt else 0)] = _
  rw [h1, h2, h4, ← h3, txt_data]

/-- How the document's tree stands in Crash. -/
def RcAt (w : World) (P : Nat → Prop) (l : Fs) (v : Value) (W : World) : Prop := (∃ o n c, v = .slice o n c) ∧ RowF W (fun n => P n ∨ w.heap.size ≤ n) v l ∧ Below w.heap.size w W

theorem RcAt.after {w W : World} {P : Nat → Prop} {l : Fs} {v : Value} {room : Int} (h : RcAt w P l v W) (c : Ch) (hl : FsOk room l) (hk : c.kind ≤ 3) (ha : c.arg.length ≤ 16777216) :
    Calls Try.prog 60 #[v, .agg (rcCells c).toArray] W fun e W' => ∃ o n k, e = .returned (.slice o n k) ∧ RcAt w P (after l c) (.slice o n k) W' := by
  refine (after_any v _ l c W h.2.1 (by have := hl.len; omega) hk (by omega) (fun y hy => by have := hl.texts y hy; omega)).mono ?_
  rintro e W' ⟨v', rfl, hr, hb'⟩
  have hs := h.2.2.size
  obtain ⟨o, cc, rfl, _⟩ := hr.shape (fun _ => rfl)
  exact ⟨o, _, cc, rfl, ⟨_, _, _, rfl⟩, hr.wider (fun n hn => hn.elim id (fun h => .inr (by omega))), h.2.2.trans (hb'.mono hs)⟩

theorem RcAt.ends {w W : World} {X P : Nat → Prop} {l : Fs} {v vL vS vC : Value} {bm : Nat} {room : Int} {S : St} (hp : RefP w X bm room S P vL vS vC) (h : RcAt w P l v W) :
    RStep w X bm room (S.clock, l, l, []) (((W.setCell ⟨bm, 2, none⟩ v).setCell ⟨bm, 3, none⟩ v).setCell ⟨bm, 4, none⟩ (.slice none 0 0)) := by
  have hC := hp.cells.below h.2.2 (hp.lt _ hp.xb)
  exact ref_ends hp h.2.2 h.2.1 (fun _ => id) (((hC.set2 v).set3 v).set4 _) (((Turned.setCell (X := fun n => n = bm) W ⟨bm, 2, none⟩ _ rfl).trans (Turned.setCell (X := fun n => n = bm) _ ⟨bm, 3, none⟩ _ rfl)).trans (Turned.setCell (X := fun n => n = bm) _ ⟨bm, 4, none⟩ _ rfl))

set_option maxRecDepth 100000 in
set_option maxHeartbeats 2000000 in
theorem rcrash_nil (bm : Nat) (X P : Nat → Prop) (many part room : Int) (n : Nat) (S : St) (vL vS : Value) (c : Nat) (w : World) (hp : RefP w X bm room S P vL vS (.slice none 0 c)) (_hg : Good room n S) (h0 : S.pend = []) :
    Calls Try.prog 46 #[.pointer (some ⟨bm, 0, none⟩), .int .i64 many, .int .i64 part] w fun r w' => r = .returned (.tuple #[]) ∧ RStep w X bm room (opC S many part) w' := by
  obtain ⟨c0, c1, c2, c3, c4⟩ := hp.cells.cell
  have f2 := hp.cells.frozen 2
  have f3 := hp.cells.frozen 3
  have f4 := hp.cells.frozen 4
  obtain ⟨o, cc, hv, _⟩ := RowR.shape hp.last (fun _ => rfl)
  have hcl : crashL S many part = S.last := by
    unfold crashL; rw [h0]; simp
  have hmin : max 0 (min many 0) = (0 : Int) := by omega
  have HS : Hid (RStep w X bm room (opC S many part) (((w.setCell ⟨bm, 2, none⟩ vS).setCell ⟨bm, 3, none⟩ vS).setCell ⟨bm, 4, none⟩ (.slice none 0 0))) := by
    show RStep _ _ _ _ _ _
    unfold opC; rw [hcl]
    exact RcAt.ends hp ⟨⟨_, _, _, hv⟩, hp.last.wider (fun _ => .inl), Below.refl _ _⟩
  obtain ⟨ln, hln⟩ : ∃ ln, ln = S.last.length := ⟨_, rfl⟩
  rw [← hln] at hv
  obtain ⟨T, hT⟩ : ∃ T, T = opC S many part := ⟨_, rfl⟩
  rw [← hT] at HS ⊢
  subst hv
  clear hp _hg hln hT hcl h0
  go_enter Try.func46, Try.ntmps46
  go_wp2
  go_loopw [8, 7] (fun i v wr => i = .int .i64 0 ∧ v = .slice o ln cc ∧ wr = w) (fun _ _ _ => 0)
  case atStart => exact ⟨rfl, rfl, rfl⟩
  case round =>
    obtain ⟨rfl, rfl, rfl⟩ := hrel
    go_wp2
    go_end0
    exact ⟨rfl, HS.out⟩

set_option maxRecDepth 100000 in
set_option maxHeartbeats 4000000 in
theorem rcrash_some (bm : Nat) (X P : Nat → Prop) (g c N : Nat) (many part room : Int) (n : Nat) (S : St) (vL vS : Value) (w : World) (hp : RefP w X bm room S P vL vS (.slice (some ⟨g, 0, none⟩) N c)) (hg : Good room n S) (hN : N = S.pend.length) (hNc : N ≤ c) (hcm : c ≤ maxLen) (m : Nat) (hmN : m ≤ N) (hmin : max 0 (min many (N : Int)) = (m : Int)) (hp2 : part < 9223372036854775808) :
    Calls Try.prog 46 #[.pointer (some ⟨bm, 0, none⟩), .int .i64 many, .int .i64 part] w fun r w' => r = .returned (.tuple #[]) ∧ RStep w X bm room (opC S many part) w' := by
  unfold maxLen at hcm
  obtain ⟨T, hT⟩ : ∃ T, T = opC S many part := ⟨_, rfl⟩
  rw [← hT]
  have HTQ := Lib.hid hT
  clear hT
  have hi3 : (N : Int) ≤ (c : Int) := by omega
  obtain ⟨c0, c1, c2, c3, c4⟩ := hp.cells.cell
  obtain ⟨o, cc, hv, hvq⟩ := RowR.shape hp.last (fun _ => rfl)
  clear hvq
  have hbm : bm < w.heap.size := hp.lt _ hp.xb
  have hcN : crashN S many = m := by unfold crashN; rw [← hN]; omega
  have HC : Hid (∀ W l v, RcAt w P l v W → W.cell? ⟨bm, 2, none⟩ = some vL ∧ W.cell? ⟨bm, 3, none⟩ = some vS ∧ W.cell? ⟨bm, 4, none⟩ = some (.slice (some ⟨g, 0, none⟩) N c) ∧ W.frozen? ⟨bm, 2, none⟩ = false ∧ W.frozen? ⟨bm, 3, none⟩ = false ∧ W.frozen? ⟨bm, 4, none⟩ = false) := fun W l v h => by
    have hC := hp.cells.below h.2.2 hbm
    exact ⟨hC.cell.2.2.1, hC.cell.2.2.2.1, hC.cell.2.2.2.2, hC.frozen 2, hC.frozen 3, hC.frozen 4⟩
  have HE : Hid (∀ W l v, RcAt w P l v W → RStep w X bm room (S.clock, l, l, []) (((W.setCell ⟨bm, 2, none⟩ v).setCell ⟨bm, 3, none⟩ v).setCell ⟨bm, 4, none⟩ (.slice none 0 0))) := fun W l v h => RcAt.ends hp h
  have HR : Hid (∀ W l v, RcAt w P l v W → ∀ i (hi : i < S.pend.length) j, j < 4 → W.cell? ⟨g, i * 4 + j, none⟩ = (rcCells S.pend[i])[j]?) := by
    intro W l v h i hi j hj
    obtain ⟨o, c', hv, _, _, _, hcs⟩ := (hp.below h.2.2).row.shape (fun _ => rfl)
    obtain ⟨g', hg', hc⟩ := hcs i S.pend[i] (List.getElem?_eq_getElem hi)
    rw [← hN] at hv
    cases hv
    cases hg'
    exact hc j hj
  have HA : Hid (∀ k (hk : k < S.pend.length) v W, RcAt w P ((S.pend.take k).foldl after S.last) v W → Calls Try.prog 60 #[v, .agg (rcCells S.pend[k]).toArray] W fun e W' => ∃ o n q, e = .returned (.slice o n q) ∧ RcAt w P ((S.pend.take (k + 1)).foldl after S.last) (.slice o n q) W') := by
    intro k hk v W h
    have hok := hg.run.at k _ (List.getElem?_eq_getElem hk)
    have := h.after (room := room) S.pend[k] (hg.run.take k) hok.kind hok.arg
    rw [← fold_take hk] at this
    exact this
  have HT : Hid (∀ (hk : m < S.pend.length) v W, RcAt w P ((S.pend.take m).foldl after S.last) v W → Calls Try.prog 60 #[v, .agg (rcCells (tornC S.pend[m] part)).toArray] W fun e W' => ∃ o n q, e = .returned (.slice o n q) ∧ RcAt w P (after ((S.pend.take m).foldl after S.last) (tornC S.pend[m] part)) (.slice o n q) W') := by
    intro hk v W h
    have hok := hg.run.at m _ (List.getElem?_eq_getElem hk)
    refine h.after (room := room) (tornC S.pend[m] part) (hg.run.take m) hok.kind ?_
    have h1 := hok.arg
    show (S.pend[m].arg.take part.toNat).length ≤ _
    rw [List.length_take]; omega
  have HG : Hid (∀ k c, S.pend[k]? = some c → ChOk ((S.pend.take k).foldl after S.last) c) := hg.run.at
  have HNL := Lib.hid hN
  have HM := Lib.hid hcN
  have hz0 : RcAt w P S.last vS w := ⟨⟨_, _, _, hv⟩, hp.last.wider (fun _ => .inl), Below.refl _ _⟩
  obtain ⟨ln, hln⟩ : ∃ ln, ln = S.last.length := ⟨_, rfl⟩
  rw [← hln] at hv
  subst hv
  clear hp hg hln hN hcN
  go_enter Try.func46, Try.ntmps46
  go_wp2
  clear c0 c1 c2 c3 c4
  go_loopw [8, 7] (fun i v wr => ∃ k : Nat, k ≤ m ∧ i = .int .i64 k ∧ RcAt w P ((S.pend.take k).foldl after S.last) v wr) (fun i _ _ => m - (intOf i).toNat)
  case atStart => exact ⟨0, Nat.zero_le _, rfl, hz0⟩
  case round =>
    obtain ⟨k, hk, rfl, hcr⟩ := hrel
    obtain ⟨c2, c3, c4, f2, f3, f4⟩ := HC.out _ _ _ hcr
    obtain ⟨⟨o1, n1, q1, rfl⟩, _⟩ := id hcr
    by_cases hlt2 : k < m
    · have hkl : k < S.pend.length := by have := HNL.out; omega
      obtain ⟨kd, p, s, t, hch⟩ : ∃ (kd : Int) (p s : ByteArray) (t : Int), rcCells S.pend[k] = [.int .i64 kd, .string p, .string s, .int .i64 t] := ⟨_, _, _, _, rfl⟩
      have hcs : ∀ j, j < 4 → wr.cell? ⟨g, k * 4 + j, none⟩ = ([.int .i64 kd, .string p, .string s, .int .i64 t] : List Value)[j]? := fun j hj => by rw [HR.out _ _ _ hcr k hkl j hj, hch]
      have e0 : wr.cell? ⟨g, k * 4, none⟩ = some (.int .i64 kd) := hcs 0 (by omega)
      have e1 : wr.cell? ⟨g, k * 4 + 1, none⟩ = some (.string p) := hcs 1 (by omega)
      have e2 : wr.cell? ⟨g, k * 4 + 2, none⟩ = some (.string s) := hcs 2 (by omega)
      have e3 : wr.cell? ⟨g, k * 4 + 3, none⟩ = some (.int .i64 t) := hcs 3 (by omega)
      have hAk := HA.out k hkl _ _ hcr
      rw [hch] at hAk
      have HAk := Lib.hid hAk
      have hi5 : (k : Int) < (m : Int) := by omega
      have hi6 : (0 : Int) ≤ (k : Int) := by omega
      have hi7 : (k : Int) < (N : Int) := by omega
      clear hAk hcs hch hcr HA HT HR HC HE HG
      go_wp2_with (go_at_call 60; refine (HAk.out).mono ?_; rintro r w3 ⟨o3, n3, q3, rfl, hcr3⟩)
      go_roundw
      case rel => exact ⟨k + 1, hlt2, by go_num, hcr3⟩
      case measure => simp [intOf]; omega
    · have hkm : k = m := by omega
      subst hkm
      have hi6 : (0 : Int) ≤ (k : Int) := by omega
      by_cases hmn2 : k < N
      · have hml : k < S.pend.length := by have := HNL.out; omega
        have hi7 : (k : Int) < (N : Int) := by omega
        obtain ⟨kd, p, s, t, hch⟩ : ∃ (kd : Int) (p s : ByteArray) (t : Int), rcCells S.pend[k] = [.int .i64 kd, .string p, .string s, .int .i64 t] := ⟨_, _, _, _, rfl⟩
        have hcs : ∀ j, j < 4 → wr.cell? ⟨g, k * 4 + j, none⟩ = ([.int .i64 kd, .string p, .string s, .int .i64 t] : List Value)[j]? := fun j hj => by rw [HR.out _ _ _ hcr k hml j hj, hch]
        have e0 : wr.cell? ⟨g, k * 4, none⟩ = some (.int .i64 kd) := hcs 0 (by omega)
        have e1 : wr.cell? ⟨g, k * 4 + 1, none⟩ = some (.string p) := hcs 1 (by omega)
        have e2 : wr.cell? ⟨g, k * 4 + 2, none⟩ = some (.string s) := hcs 2 (by omega)
        have e3 : wr.cell? ⟨g, k * 4 + 3, none⟩ = some (.int .i64 t) := hcs 3 (by omega)
        have hget : S.pend[k]? = some S.pend[k] := List.getElem?_eq_getElem hml
        have hok := HG.out k _ hget
        have hkd : ((S.pend[k].kind + 1 : Nat) : Int) = kd := by
          have := congrArg (fun l => l[0]?) hch
          simpa [rcCells] using this
        by_cases hk1 : kd ≤ 2
        · by_cases hpart : 1 ≤ part
          · have hTk := HT.out hml
            rw [torn_rc hch] at hTk
            have hfin := crash_torn (part := part) HM.out hget hpart (by omega)
            have hsz : s.size ≤ 16777216 := by
              have h3 : txt S.pend[k].arg = s := by
                have := congrArg (fun l => l[2]?) hch
                simpa [rcCells] using this
              rw [← h3, txt_size]; exact hok.arg
            obtain ⟨mm, hmm⟩ : ∃ mm : Nat, mm = min part.toNat s.size := ⟨_, rfl⟩
            have hmin2 : min part (s.size : Int) = (mm : Int) := by omega
            have hms : mm ≤ s.size := by omega
            have hj1 : (0 : Int) ≤ (mm : Int) := by omega
            have hj2 : (mm : Int) ≤ (s.size : Int) := by omega
            have htx : txt (s.data.toList.take part.toNat) = s.extract 0 mm := by
              rw [extract_txt, List.drop_zero, Nat.sub_zero, hmm]
              congr 1
              rw [← size_list s, List.take_eq_take_iff]
              omega
            rw [htx] at hTk
            obtain ⟨lo, hlo⟩ : ∃ lo, lo = (S.pend.take k).foldl after S.last := ⟨_, rfl⟩
            rw [← hfin, ← hlo] at hTk
            rw [← hlo] at hcr
            have HTk : Hid (∀ w5 : World, Below wr.heap.size wr w5 → Calls Try.prog 60 #[.slice o1 n1 q1, .agg #[.int .i64 kd, .string p, .string (s.extract 0 mm), .int .i64 t]] w5 fun e W' => ∃ o5 n5 q5, e = .returned (.slice o5 n5 q5) ∧ RcAt w P (crashL S many part) (.slice o5 n5 q5) W' ∧ RStep w X bm room T (((W'.setCell ⟨bm, 2, none⟩ (.slice o5 n5 q5)).setCell ⟨bm, 3, none⟩ (.slice o5 n5 q5)).setCell ⟨bm, 4, none⟩ (.slice none 0 0)) ∧ W'.cell? ⟨bm, 2, none⟩ = some vL ∧ W'.cell? ⟨bm, 3, none⟩ = some (.slice o ln cc) ∧ W'.cell? ⟨bm, 4, none⟩ = some (.slice (some ⟨g, 0, none⟩) N c) ∧ W'.frozen? ⟨bm, 2, none⟩ = false ∧ W'.frozen? ⟨bm, 3, none⟩ = false ∧ W'.frozen? ⟨bm, 4, none⟩ = false) := by
              intro w5 hb
              refine (hTk _ _ ⟨⟨_, _, _, rfl⟩, hcr.2.1.below hb (Nat.le_refl _), hcr.2.2.trans (hb.mono hcr.2.2.size)⟩).mono ?_
              rintro e W' ⟨o5, n5, q5, rfl, hh⟩
              exact ⟨o5, n5, q5, rfl, hh, by rw [HTQ.out]; exact HE.out _ _ _ hh, HC.out _ _ _ hh⟩
            clear hTk hcs hch HA HT HR HC HE HG hget hok hkd hfin hlo htx hmm hcr HNL HM HTQ hz0
            go_wp2_with (go_at_call 60; refine (HTk.out _ ((Below.refl _ wr).alloc (Nat.le_refl _) _)).mono ?_; rintro r w6 ⟨o5, n5, q5, rfl, hh, hst, d2, d3, d4, g2, g3, g4⟩)
            go_end0
            exact ⟨rfl, hst⟩
          · have hq := crash_none (part := part) HM.out (.inr ⟨_, hget, fun h => hpart h.1⟩)
            have HST : Hid (RStep w X bm room T (((wr.setCell ⟨bm, 2, none⟩ (.slice o1 n1 q1)).setCell ⟨bm, 3, none⟩ (.slice o1 n1 q1)).setCell ⟨bm, 4, none⟩ (.slice none 0 0))) := by
              show RStep _ _ _ _ _ _
              rw [HTQ.out]; unfold opC; rw [hq]; exact HE.out _ _ _ hcr
            clear hcs hch HA HT HR HC HE HG hget hok hkd hq hcr HNL HM HTQ hz0
            go_wp2
            go_end0
            exact ⟨rfl, HST.out⟩
        · have hq := crash_none (part := part) HM.out (.inr ⟨_, hget, fun h => hk1 (by have := h.2; omega)⟩)
          have HST : Hid (RStep w X bm room T (((wr.setCell ⟨bm, 2, none⟩ (.slice o1 n1 q1)).setCell ⟨bm, 3, none⟩ (.slice o1 n1 q1)).setCell ⟨bm, 4, none⟩ (.slice none 0 0))) := by
            show RStep _ _ _ _ _ _
            rw [HTQ.out]; unfold opC; rw [hq]; exact HE.out _ _ _ hcr
          clear hcs hch HA HT HR HC HE HG hget hok hkd hq hcr HNL HM HTQ hz0
          go_wp2
          go_end0
          exact ⟨rfl, HST.out⟩
      · have hget : S.pend[k]? = none := List.getElem?_eq_none (by have := HNL.out; omega)
        have hq := crash_none (part := part) HM.out (.inl hget)
        have HST : Hid (RStep w X bm room T (((wr.setCell ⟨bm, 2, none⟩ (.slice o1 n1 q1)).setCell ⟨bm, 3, none⟩ (.slice o1 n1 q1)).setCell ⟨bm, 4, none⟩ (.slice none 0 0))) := by
          show RStep _ _ _ _ _ _
          rw [HTQ.out]; unfold opC; rw [hq]; exact HE.out _ _ _ hcr
        clear HA HT HR HC HE HG hget hq hcr HNL HM HTQ hz0
        go_wp2
        go_end0
        exact ⟨rfl, HST.out⟩

/-- What Crash leaves of any tree of the document's. -/
theorem rCrash_good (bm : Nat) (X : Nat → Prop) (many part room : Int) (n : Nat) (S : St) (w : World) (h : RefS w X bm room S) (hg : Good room n S) (hp2 : part < 9223372036854775808) :
    Calls Try.prog 46 #[.pointer (some ⟨bm, 0, none⟩), .int .i64 many, .int .i64 part] w fun r w' => r = .returned (.tuple #[]) ∧ RStep w X bm room (opC S many part) w' := by
  obtain ⟨P, vL, vS, vC, hp⟩ := h
  obtain ⟨o, c, rfl, q1, q2, q3, q4⟩ := hp.row.shape (fun _ => rfl)
  cases o with
  | none =>
    have hp0 : S.pend = [] := by
      cases he : S.pend with
      | nil => rfl
      | cons x r => obtain ⟨g, hg, _⟩ := q4 0 x (by rw [he]; rfl); cases hg
    rw [hp0] at hp
    exact rcrash_nil bm X P many part room n S vL vS c w hp hg hp0
  | some a =>
    obtain ⟨g, rfl, _⟩ := q3 a rfl
    obtain ⟨m, hm⟩ : ∃ m : Nat, max 0 (min many (S.pend.length : Int)) = (m : Int) := ⟨(max 0 (min many (S.pend.length : Int))).toNat, by omega⟩
    exact rcrash_some bm X P g c S.pend.length many part room n S vL vS w hp hg rfl q1 q2 m (by omega) hm hp2

end Go.Proofs.Ytginlknlkbhgaaa
