/-
  The document's own rows of files: drop, put: for any row.
-/
import Derived.Deep.RegionHeld3
import Derived.Test.YtginlknlkbhgaaaFRef1
namespace Go.Proofs.Ytginlknlkbhgaaa
open Go.RowKit Go.Shelf Go.Maps

theorem rowf_push {w0 wr : World} {v : Value} {l : Fs} (h : RowF wr (fun n => w0.heap.size ≤ n) v l) (hb : Below w0.heap.size w0 wr) (hl : l.length < 1099511627776) (y : BS × FD) (a b : ByteArray) (ha : a = txt y.1) (hbb : b = txt y.2.1) :
    ∃ v' w', (Builtin.append_ #[76, 76] 76 #[v, .slice (some ⟨wr.heap.size, 0, none⟩) 1 1]).run Try.prog (wr.alloc (.cells #[.string a, .string b, .int .i64 y.2.2] 81)) = .ok v' w' ∧ RowF w' (fun n => w0.heap.size ≤ n) v' (l ++ [y]) ∧ Below w0.heap.size w0 w' ∧ ∃ o n c, v' = .slice o n c := by
  subst ha hbb
  have hT : Turned (fun _ => False) wr (wr.alloc (.cells #[.string (txt y.1), .string (txt y.2.1), .int .i64 y.2.2] 81)) := Turned.alloc _ _ _
  obtain ⟨v', w', r1, r2, r3, o, c, r4⟩ := (h.kept hT (fun _ _ => id)).push rowRF y rfl (rf_one y) wr.heap.size 1 (0, 0) (World.alloc_heap_new wr _) hl 76
  have hs := hb.size
  refine ⟨v', w', r1, r2.wider (fun n hn => hn.elim id (fun h => by rw [h]; simp; omega)), (hb.alloc hs _).trans (r3.below (by simp; omega) (fun n hn => hn)), o, _, c, r4⟩
theorem rowf_push_d {w0 wr : World} {v : Value} {l : Fs} (h : RowF wr (fun n => w0.heap.size ≤ n) v l) (hb : Below w0.heap.size w0 wr) (hl : l.length < 1099511627776) (y : BS × FD) (a b : ByteArray) (ha : a = txt y.1) (hbb : b = txt y.2.1) :
    ∃ v' w', (Builtin.append_ #[76, 76] 76 #[v, .slice (some ⟨wr.heap.size, 0, none⟩) 1 1]).run Try.prog (wr.alloc (.cells #[.string a, .string b, .int .i64 y.2.2] 81)).drew = .ok v' w' ∧ RowF w' (fun n => w0.heap.size ≤ n) v' (l ++ [y]) ∧ Below w0.heap.size w0 w' ∧ ∃ o n c, v' = .slice o n c := by
  subst ha hbb
  have hT : Turned (fun _ => False) wr (wr.alloc (.cells #[.string (txt y.1), .string (txt y.2.1), .int .i64 y.2.2] 81)).drew := (Turned.alloc _ _ _).trans (Turned.drew _ _)
  obtain ⟨v', w', r1, r2, r3, o, c, r4⟩ := (h.kept hT (fun _ _ => id)).push rowRF y rfl (rf_one y) wr.heap.size 1 (0, 0) (World.alloc_heap_new wr _) hl 76
  have hs := hb.size
  refine ⟨v', w', r1, r2.wider (fun n hn => hn.elim id (fun h => by rw [h]; simp; omega)), (below_drew (hb.alloc hs _)).trans (r3.below (by simp; omega) (fun n hn => hn)), o, _, c, r4⟩
theorem drp_take {l : Fs} {p : BS} {k : Nat} {y : BS × FD} (hy : l[k]? = some y) : drp p (l.take (k + 1)) = drp p (l.take k) ++ (if y.1 = p then [] else [y]) := by
  rw [List.take_add_one, hy]
  unfold drp
  rw [List.filter_append]
  by_cases h : y.1 = p
  · simp [h]
  · simp [h]
theorem bytesLess_lt : ∀ a b : BS, Op.bytesLess a b = decide (a < b)
  | [], [] => by simp [Op.bytesLess]
  | [], _ :: _ => by simp [Op.bytesLess]
  | _ :: _, [] => by simp [Op.bytesLess]
  | a :: r, b :: s => by
    rw [Op.bytesLess, bytesLess_lt r s, Bool.eq_iff_iff]
    simp [List.cons_lt_cons_iff]
theorem less_t {a b : ByteArray} (h : a.data.toList < b.data.toList) : Op.bytesLess a.toList b.toList = true := by rw [bytesLess_lt, Lib.toList_data, Lib.toList_data]; exact decide_eq_true h
theorem less_f {a b : ByteArray} (h : ¬ a.data.toList < b.data.toList) : Op.bytesLess a.toList b.toList = false := by rw [bytesLess_lt, Lib.toList_data, Lib.toList_data]; exact decide_eq_false h
theorem drp_len {α : Type} (p : BS) (l : List (BS × α)) : (drp p l).length ≤ l.length := List.length_filter_le _ _

set_option maxRecDepth 100000 in
set_option maxHeartbeats 4000000 in
theorem drop_nil (p : ByteArray) (w : World) : Calls Try.prog 59 #[.slice none 0 0, .string p] w fun e w' => e = .returned (.slice none 0 0) ∧ w = w' := by
  go_enter Try.func59, Try.ntmps59
  go_wp2
  refine wp_loop_rounds 1 ?_
  rw [rounds_succ]
  go_wp2
  go_ret
  exact ⟨rfl, rfl⟩

set_option maxRecDepth 100000 in
set_option maxHeartbeats 4000000 in
theorem drop_some (g c : Nat) (l : Fs) (p : ByteArray) (w : World) (hc : RowC w g l) (hgl : g < w.heap.size) (hln : l.length < 1073741824) : Calls Try.prog 59 #[.slice (some ⟨g, 0, none⟩) l.length c, .string p] w fun e w' =>
    ∃ v, e = .returned v ∧ RowF w' (fun n => w.heap.size ≤ n) v (drp p.data.toList l) ∧ Below w.heap.size w w' := by
  have HC := Lib.hid hc
  clear hc
  go_enter Try.func59, Try.ntmps59
  go_wp2
  go_loopw [6, 5] (fun i v wr => ∃ k : Nat, k ≤ l.length ∧ i = .int .i64 k ∧ Hid (RowF wr (fun n => w.heap.size ≤ n) v (drp p.data.toList (l.take k))) ∧ Below w.heap.size w wr) (fun i _ _ => l.length - (intOf i).toNat)
  case atStart => exact ⟨0, Nat.zero_le _, rfl, RowR.nil _ _ _ _ _, Below.refl _ _⟩
  case round =>
    obtain ⟨k, hk, rfl, HR, hb⟩ := hrel
    by_cases hlt : k < l.length
    · obtain ⟨⟨yp, yt, ym⟩, hy⟩ : ∃ y, l[k]? = some y := ⟨_, List.getElem?_eq_getElem hlt⟩
      obtain ⟨e0, e1, e2⟩ := (HC.out.below hb hgl) k _ hy
      obtain ⟨sp, hsp⟩ : ∃ sp : ByteArray, sp = txt yp := ⟨_, rfl⟩
      obtain ⟨st, hst⟩ : ∃ st : ByteArray, st = txt yt := ⟨_, rfl⟩
      have hspd : sp.data.toList = yp := by rw [hsp, txt_data]
      have hstd : st.data.toList = yt := by rw [hst, txt_data]
      simp only [← hsp, ← hst] at e0 e1 e2
      have hi1 : (0 : Int) ≤ (k : Int) := by omega
      have hi2 : (k : Int) < (l.length : Int) := by omega
      have hdt := drp_take (p := p.data.toList) hy
      by_cases hpe : sp = p
      · have hq : (!sp.toList == p.toList) = false := str_ne_f hpe
        rw [if_pos (show yp = p.data.toList by rw [← hspd, hpe]), List.append_nil] at hdt
        rw [← hdt] at HR
        clear hy hspd hstd hsp hst hpe hdt
        go_wp2
        go_roundw
        case rel => exact ⟨k + 1, hlt, by go_num, HR, hb⟩
        case measure => simp [intOf]; omega
      · have hq : (!sp.toList == p.toList) = true := str_ne_t hpe
        rw [if_neg (show ¬ yp = p.data.toList from fun e => hpe (by rw [← txt_toList sp, hspd, e, txt_toList]))] at hdt
        obtain ⟨v', w', hrun, hr', hb', vo, vn, vc, rfl⟩ := rowf_push HR.out hb (by have := drp_len p.data.toList (l.take k); rw [List.length_take] at this; omega) (yp, yt, ym) sp st hsp hst
        rw [← hdt] at hr'
        have HR' := Lib.hid hr'
        clear hy hspd hstd hsp hst hpe hdt hr' HR
        go_wp2_with (first
          | (at_builtin; refine wpList_append_eq rfl _ _ 76 rfl _ _ _ w' rfl rfl hrun ?_)
          | go_in)
        go_roundw
        case rel => exact ⟨k + 1, hlt, by go_num, HR', hb'⟩
        case measure => simp [intOf]; omega
    · have hkl : l.take k = l := List.take_of_length_le (by omega)
      rw [hkl] at HR
      clear hkl
      go_wp2
      go_ret
      exact ⟨_, rfl, HR.out, hb⟩

theorem drop_any (v : Value) (P : Nat → Prop) (l : Fs) (p : ByteArray) (w : World) (h : RowF w P v l) (hln : l.length < 1073741824) : Calls Try.prog 59 #[v, .string p] w fun e w' =>
    ∃ v', e = .returned v' ∧ RowF w' (fun n => w.heap.size ≤ n) v' (drp p.data.toList l) ∧ Below w.heap.size w w' := by
  rcases h.cells with ⟨rfl, rfl⟩ | ⟨g, c, rfl, _, hgl, hc⟩
  · refine (drop_nil p w).mono ?_
    rintro e w' ⟨rfl, rfl⟩
    exact ⟨_, rfl, RowR.nil _ _ _ _ _, Below.refl _ _⟩
  · exact drop_some g c l p w hc hgl hln

/-! ### put -/
/-- What is still to come, the new file with it if it has not been laid. -/
def PutAt (f : BS × FD) (l : Fs) (done : Bool) (k : Nat) (out : Fs) : Prop := out ++ (if done then l.drop k else ins f (l.drop k)) = ins f l
theorem PutAt.start (f : BS × FD) (l : Fs) : PutAt f l false 0 [] := rfl
theorem PutAt.len {f : BS × FD} {l : Fs} {d : Bool} {k : Nat} {out : Fs} (h : PutAt f l d k out) : out.length ≤ l.length + 1 := by
  have := congrArg List.length h
  rw [List.length_append, ins_length] at this
  omega
theorem PutAt.pass {f : BS × FD} {l : Fs} {d : Bool} {k : Nat} {out : Fs} (h : PutAt f l d k out) {y : BS × FD} (hy : l[k]? = some y) (hd : d = true ∨ ¬ f.1 < y.1) : PutAt f l d (k + 1) (out ++ [y]) := by
  have hk : k < l.length := (List.getElem?_eq_some_iff.1 hy).1
  have e : l.drop k = y :: l.drop (k + 1) := by rw [List.drop_eq_getElem_cons hk]; congr 1; exact (List.getElem?_eq_some_iff.1 hy).2
  unfold PutAt at *
  rw [e] at h
  rw [← h]
  cases d with
  | true => simp
  | false =>
    rcases hd with hd | hd
    · cases hd
    · simp [ins, hd]
theorem PutAt.lay {f : BS × FD} {l : Fs} {k : Nat} {out : Fs} (h : PutAt f l false k out) {y : BS × FD} (hy : l[k]? = some y) (hlt : f.1 < y.1) : PutAt f l true (k + 1) (out ++ [f] ++ [y]) := by
  have hk : k < l.length := (List.getElem?_eq_some_iff.1 hy).1
  have e : l.drop k = y :: l.drop (k + 1) := by rw [List.drop_eq_getElem_cons hk]; congr 1; exact (List.getElem?_eq_some_iff.1 hy).2
  unfold PutAt at *
  rw [e] at h
  rw [← h]
  simp [ins, hlt]
theorem PutAt.done {f : BS × FD} {l : Fs} {d : Bool} {k : Nat} {out : Fs} (h : PutAt f l d k out) (hk : l.length ≤ k) : if d then out = ins f l else out ++ [f] = ins f l := by
  unfold PutAt at h
  rw [List.drop_of_length_le hk] at h
  cases d <;> simpa [ins] using h

set_option maxRecDepth 100000 in
set_option maxHeartbeats 4000000 in
theorem put_any (v : Value) (P : Nat → Prop) (l : Fs) (p t : ByteArray) (m : Int) (w : World) (h : RowF w P v l) (hln : l.length < 1073741824) : Calls Try.prog 73 #[v, .agg #[.string p, .string t, .int .i64 m]] w fun e w' =>
    ∃ v', e = .returned v' ∧ RowF w' (fun n => w.heap.size ≤ n) v' (put (p.data.toList, t.data.toList, m) l) ∧ Below w.heap.size w w' := by
  obtain ⟨W, hW⟩ : ∃ W, W = w.alloc (.cells #[.string p, .string t, .int .i64 m] 81) := ⟨_, rfl⟩
  have hW0 : Below w.heap.size w W := by rw [hW]; exact (Below.refl _ w).alloc (Nat.le_refl _) _
  have hx0 : W.heap[w.heap.size]? = some (.cells #[.string p, .string t, .int .i64 m] 81 (0, 0)) := by rw [hW]; exact World.alloc_heap_new w _
  have hWs : W.heap.size = w.heap.size + 1 := by rw [hW]; simp
  have hrow : RowF W P v l := h.kept (turned_below hW0) (fun _ _ => id)
  have y0 : W.cell? ⟨w.heap.size, 0, none⟩ = some (.string p) := by rw [Lib.cell_of_heap hx0]; rfl
  have HD := Lib.hid (drop_any v P l p W hrow hln)
  clear h hrow hW0
  subst hW
  go_enter Try.func73, Try.ntmps73
  go_wp2_with (go_at_call 59; refine (HD.out).mono ?_; rintro e w1 ⟨vd, rfl, hrd, hbd⟩)
  obtain ⟨ld, hld⟩ : ∃ ld, ld = drp p.data.toList l := ⟨_, rfl⟩
  have hput : put (p.data.toList, t.data.toList, m) l = ins (p.data.toList, t.data.toList, m) ld := by rw [hld]; rfl
  have HPUT := Lib.hid hput
  have hldl : ld.length < 1073741824 := by rw [hld]; exact Nat.lt_of_le_of_lt (drp_len _ _) hln
  rw [← hld] at hrd
  have hb0 : Below w.heap.size w w1 := ((Below.refl _ w).alloc (Nat.le_refl _) _).trans (hbd.mono (by simp))
  have hx1 : w1.heap[w.heap.size]? = some (.cells #[.string p, .string t, .int .i64 m] 81 (0, 0)) := (hbd.block _ (by simp)).trans hx0
  have hw1s : w.heap.size < w1.heap.size := (Array.getElem?_eq_some_iff.1 hx1).1
  -- the box and the rest's row stay, whatever is laid behind
  have HX : Hid (∀ wr, Below w1.heap.size w1 wr → wr.cell? ⟨w.heap.size, 0, none⟩ = some (.string p) ∧ wr.cell? ⟨w.heap.size, 1, none⟩ = some (.string t) ∧ wr.cell? ⟨w.heap.size, 2, none⟩ = some (.int .i64 m)) := by
    intro wr hb
    have hx := (hb.block _ hw1s).trans hx1
    exact ⟨by rw [Lib.cell_of_heap hx]; rfl, by rw [Lib.cell_of_heap hx]; rfl, by rw [Lib.cell_of_heap hx]; rfl⟩
  have hcs := hrd.cells
  clear hld hput hrd hbd hx0 hx1 y0 hWs
  rcases hcs with ⟨rfl, rfl⟩ | ⟨g, c, rfl, hg1, hgl, hc⟩
  · obtain ⟨x0, x1, x2⟩ := HX.out _ (Below.refl _ w1)
    obtain ⟨v', w2, hrun, hr', hb', vo, vn, vc, rfl⟩ := rowf_push (RowR.nil _ _ rfCells w1 (fun n => w1.heap.size ≤ n)) (Below.refl _ w1) (by simp) (p.data.toList, t.data.toList, m) p t (txt_toList p).symm (txt_toList t).symm
    have HR' := Lib.hid hr'
    clear hr' HX hw1s
    refine wp_loop_rounds 1 ?_
    rw [rounds_succ]
    go_wp2_with (first
      | (at_builtin; refine wpList_append_eq rfl _ _ 76 rfl _ _ _ w2 rfl rfl hrun ?_)
      | go_in)
    go_ret
    refine ⟨_, rfl, ?_, hb0.trans (hb'.mono hb0.size)⟩
    rw [HPUT.out]
    exact HR'.out.wider (fun n hn => Nat.le_trans hb0.size hn)
  · have HC := Lib.hid hc
    clear hc
    go_loopw [8, 6, 7] (fun i v d wr => ∃ (k : Nat) (out : Fs) (dn : Bool), k ≤ ld.length ∧ i = .int .i64 k ∧ d = .bool dn ∧ Hid (PutAt (p.data.toList, t.data.toList, m) ld dn k out) ∧ Hid (RowF wr (fun n => w1.heap.size ≤ n) v out) ∧ Below w1.heap.size w1 wr) (fun i _ _ _ => ld.length - (intOf i).toNat)
    case atStart => exact ⟨0, [], false, Nat.zero_le _, rfl, rfl, PutAt.start _ _, RowR.nil _ _ _ _ _, Below.refl _ _⟩
    case round =>
      obtain ⟨k, out, dn, hk, rfl, rfl, HP, HR, hb⟩ := hrel
      obtain ⟨x0, x1, x2⟩ := HX.out _ hb
      have hol := HP.out.len
      by_cases hlt : k < ld.length
      · obtain ⟨⟨yp, yt, ym⟩, hy⟩ : ∃ y, ld[k]? = some y := ⟨_, List.getElem?_eq_getElem hlt⟩
        obtain ⟨e0, e1, e2⟩ := (HC.out.below hb hgl) k _ hy
        obtain ⟨sp, hsp⟩ : ∃ sp : ByteArray, sp = txt yp := ⟨_, rfl⟩
        obtain ⟨st, hst⟩ : ∃ st : ByteArray, st = txt yt := ⟨_, rfl⟩
        have hspd : sp.data.toList = yp := by rw [hsp, txt_data]
        simp only [← hsp, ← hst] at e0 e1 e2
        have hi1 : (0 : Int) ≤ (k : Int) := by omega
        have hi2 : (k : Int) < (ld.length : Int) := by omega
        have x0d : wr.drew.cell? ⟨w.heap.size, 0, none⟩ = some (.string p) := x0
        have x1d : wr.drew.cell? ⟨w.heap.size, 1, none⟩ = some (.string t) := x1
        have x2d : wr.drew.cell? ⟨w.heap.size, 2, none⟩ = some (.int .i64 m) := x2
        have e0d : wr.drew.cell? ⟨g, k * 3, none⟩ = some (.string sp) := e0
        have e1d : wr.drew.cell? ⟨g, k * 3 + 1, none⟩ = some (.string st) := e1
        have e2d : wr.drew.cell? ⟨g, k * 3 + 2, none⟩ = some (.int .i64 ym) := e2
        by_cases hcase : dn = false ∧ p.data.toList < yp
        · obtain ⟨rfl, hless⟩ := hcase
          have hq := less_t (a := p) (b := sp) (by rw [hspd]; exact hless)
          obtain ⟨v2, w2, hrun, hr2, hb2, vo, vn, vc, rfl⟩ := rowf_push_d HR.out hb (by omega) (p.data.toList, t.data.toList, m) p t (txt_toList p).symm (txt_toList t).symm
          obtain ⟨v3, w3, hrun2, hr3, hb3, uo, un, uc, rfl⟩ := rowf_push hr2 hb2 (by rw [List.length_append]; simp; omega) (yp, yt, ym) sp st hsp hst
          have HP2 := Lib.hid (HP.out.lay hy hless)
          have HR3 := Lib.hid hr3
          obtain ⟨f0, f1, f2⟩ := (HC.out.below hb2 hgl) k _ hy
          simp only [← hsp, ← hst] at f0 f1 f2
          clear hr2 hr3 hy hsp hst hspd hless HP HR hol
          go_wp2
          go_region_held3 (fun w' => w'.cell? ⟨w.heap.size, 0, none⟩ = some (.string p) ∧ w'.cell? ⟨g, k * 3, none⟩ = some (.string sp)) (first | exact ⟨by assumption, by assumption⟩) (first | fail)
          go_wp2_with (first
            | (at_builtin; refine wpList_append_eq rfl _ _ 76 rfl _ _ _ w2 rfl rfl hrun ?_)
            | (at_builtin; refine wpList_append_eq rfl _ _ 76 rfl _ _ _ w3 rfl rfl hrun2 ?_)
            | go_in)
          go_roundw
          case rel => exact ⟨k + 1, _, true, hlt, by go_num, rfl, HP2, HR3, hb3⟩
          case measure => simp [intOf]; omega
        · have HP2 := Lib.hid (HP.out.pass hy (by
            cases dn with
            | true => exact .inl rfl
            | false => exact .inr (fun h => hcase ⟨rfl, h⟩)))
          cases dn with
          | true =>
            have HSP := Lib.hid hsp
            have HST := Lib.hid hst
            have hol2 : out.length < 1099511627776 := by omega
            clear hy hsp hst hspd HP hol hcase
            go_wp2
            go_quiet (fail)
            have hb4 := below_drewN hb nq
            have hR4 := RowR.kept HR.out (Turned.drewN (fun _ => False) wr nq) (fun _ _ => id)
            have f0 : (wr.drewN nq).cell? ⟨g, k * 3, none⟩ = some (.string sp) := e0
            have f1 : (wr.drewN nq).cell? ⟨g, k * 3 + 1, none⟩ = some (.string st) := e1
            have f2 : (wr.drewN nq).cell? ⟨g, k * 3 + 2, none⟩ = some (.int .i64 ym) := e2
            clear e0 e1 e2 x0 x1 x2 x0d x1d x2d e0d e1d e2d HR hb
            generalize wr.drewN nq = w4 at hb4 hR4 f0 f1 f2 ⊢
            obtain ⟨v2, w2, hrun, hr2, hb2, vo, vn, vc, rfl⟩ := rowf_push hR4 hb4 hol2 (yp, yt, ym) sp st HSP.out HST.out
            have HR2 := Lib.hid hr2
            clear hr2 hR4 HSP HST
            go_wp2_with (first
              | (at_builtin; refine wpList_append_eq rfl _ _ 76 rfl _ _ _ w2 rfl rfl hrun ?_)
              | go_in)
            go_roundw
            case rel => exact ⟨k + 1, _, true, hlt, by go_num, rfl, HP2, HR2, hb2⟩
            case measure => simp [intOf]; omega
          | false =>
            obtain ⟨v2, w2, hrun, hr2, hb2, vo, vn, vc, rfl⟩ := rowf_push_d HR.out hb (by omega) (yp, yt, ym) sp st hsp hst
            have HR2 := Lib.hid hr2
            have hq := less_f (a := p) (b := sp) (by rw [hspd]; exact fun h => hcase ⟨rfl, h⟩)
            clear hr2 hy hsp hst hspd HP HR hol hcase
            go_wp2
            go_region_held3 (fun w' => w'.cell? ⟨w.heap.size, 0, none⟩ = some (.string p) ∧ w'.cell? ⟨g, k * 3, none⟩ = some (.string sp)) (first | exact ⟨by assumption, by assumption⟩) (first | fail)
            go_wp2_with (first
              | (at_builtin; refine wpList_append_eq rfl _ _ 76 rfl _ _ _ w2 rfl rfl hrun ?_)
              | go_in)
            go_roundw
            case rel => exact ⟨k + 1, _, false, hlt, by go_num, rfl, HP2, HR2, hb2⟩
            case measure => simp [intOf]; omega
      · have hdone := HP.out.done (by omega)
        cases dn with
        | true =>
          have hE := HR.out
          rw [show out = ins (p.data.toList, t.data.toList, m) ld from hdone] at hE
          have HE := Lib.hid hE
          clear hE
          clear hdone hol HP HR
          go_wp2
          go_ret
          refine ⟨_, rfl, ?_, hb0.trans (hb.mono hb0.size)⟩
          rw [HPUT.out]
          exact HE.out.wider (fun n hn => Nat.le_trans hb0.size hn)
        | false =>
          have h1 : out ++ [(p.data.toList, t.data.toList, m)] = ins (p.data.toList, t.data.toList, m) ld := hdone
          obtain ⟨v2, w2, hrun, hr2, hb2, vo, vn, vc, rfl⟩ := rowf_push HR.out hb (by omega) (p.data.toList, t.data.toList, m) p t (txt_toList p).symm (txt_toList t).symm
          rw [h1] at hr2
          have HE := Lib.hid hr2
          clear hdone hol HP HR h1 hr2
          go_wp2_with (first
            | (at_builtin; refine wpList_append_eq rfl _ _ 76 rfl _ _ _ w2 rfl rfl hrun ?_)
            | go_in)
          go_ret
          refine ⟨_, rfl, ?_, hb0.trans (hb2.mono hb0.size)⟩
          rw [HPUT.out]
          exact HE.out.wider (fun n hn => Nat.le_trans hb0.size hn)

end Go.Proofs.Ytginlknlkbhgaaa
