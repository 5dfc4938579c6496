/-
  The document's own journal, at a tree of its own that stands first.
-/
import Derived.Deep.QuietTactic
import Derived.BigQuiet
import Derived.Test.YtchnbnmajagpjaaGreatDoorKOpen
namespace Go.Proofs.YtchnbnmajagpjaaGreatDoor
open Go.RowKit Go.Shelf Go.Maps

section
variable {w1 : World} {Z : Nat → Prop} {room : Int} {w : World} {l : List Ent} {b n : Nat} {S S' : St}
theorem At.treeR (h : At w1 Z room ((true, b, S) :: l) w) {f : FuncId} {args : Array Value} {v : Value} (hc : ∀ X, RefS w X b room S → Calls Tryz.prog f args w fun r w' => r = .returned v ∧ RStep w X b room S' w') :
    Calls Tryz.prog f args w fun r w' => r = .returned v ∧ At w1 Z room ((true, b, S') :: l) w' :=
  h.head (Q := fun r => r = .returned v) fun X hX => (hc X hX).mono fun _ _ ⟨k1, X', k2, k3, k4⟩ => ⟨k1, X', k2, k3, k4⟩
theorem At.rwrite (h : At w1 Z room ((true, b, S) :: l) w) (hg : Good room n S) (hn : n < 268435456) (p s : ByteArray) (hp : p.size ≤ 1048576) (hs : s.size ≤ 1048576) :
    Calls Tryz.prog 59 #[.pointer (some ⟨b, 0, none⟩), .string p, .string s] w fun r w' => r = .returned (.int .i64 (opW room S p.data.toList s.data.toList).1) ∧ At w1 Z room ((true, b, (opW room S p.data.toList s.data.toList).2) :: l) w' :=
  h.treeR fun X hX => rWrite_good b X p s room n S w hX hg (by omega) hp hs
theorem At.rappend (h : At w1 Z room ((true, b, S) :: l) w) (hg : Good room n S) (hn : n < 268435456) (p s : ByteArray) (hp : p.size ≤ 1048576) (hs : s.size ≤ 1048576) :
    Calls Tryz.prog 51 #[.pointer (some ⟨b, 0, none⟩), .string p, .string s] w fun r w' => r = .returned (.int .i64 (opA room S p.data.toList s.data.toList).1) ∧ At w1 Z room ((true, b, (opA room S p.data.toList s.data.toList).2) :: l) w' :=
  h.treeR fun X hX => rAppend_good b X p s room n S w hX hg (by omega) hp hs
theorem At.rremove (h : At w1 Z room ((true, b, S) :: l) w) (hg : Good room n S) (hn : n < 268435456) (p : ByteArray) :
    Calls Tryz.prog 56 #[.pointer (some ⟨b, 0, none⟩), .string p] w fun r w' => r = .returned (.int .i64 (opR S p.data.toList).1) ∧ At w1 Z room ((true, b, (opR S p.data.toList).2) :: l) w' :=
  h.treeR fun X hX => rRemove_good b X p room n S w hX hg (by omega)
theorem At.rrename (h : At w1 Z room ((true, b, S) :: l) w) (hg : Good room n S) (hn : n < 268435456) (p q : ByteArray) (hq : q.size ≤ 1048576) :
    Calls Tryz.prog 60 #[.pointer (some ⟨b, 0, none⟩), .string p, .string q] w fun r w' => r = .returned (.int .i64 (opN S p.data.toList q.data.toList).1) ∧ At w1 Z room ((true, b, (opN S p.data.toList q.data.toList).2) :: l) w' :=
  h.treeR fun X hX => rRename_good b X p q room n S w hX hg (by omega) hq
theorem At.rsync (h : At w1 Z room ((true, b, S) :: l) w)  :
    Calls Tryz.prog 58 #[.pointer (some ⟨b, 0, none⟩)] w fun r w' => r = .returned (.tuple #[]) ∧ At w1 Z room ((true, b, opS S) :: l) w' :=
  h.treeR fun X hX => rSync_good b X room S w hX
theorem At.rcrash (h : At w1 Z room ((true, b, S) :: l) w) (hg : Good room n S) (many part : Int) (hp : part < 9223372036854775808) :
    Calls Tryz.prog 18 #[.pointer (some ⟨b, 0, none⟩), .int .i64 many, .int .i64 part] w fun r w' => r = .returned (.tuple #[]) ∧ At w1 Z room ((true, b, opC S many part) :: l) w' :=
  h.treeR fun X hX => rCrash_good b X many part room n S w hX hg hp
set_option maxRecDepth 100000 in
set_option maxHeartbeats 4000000 in
theorem At.rjread (h : At w1 Z room ((true, b, S) :: l) w) (hg : Good room n S) (p : ByteArray) (ht : (textOf S.now p.data.toList).length ≤ 100000) :
    Calls Tryz.prog 57 #[.pointer (some ⟨b, 0, none⟩), .string p] w fun r w' => ∃ o c, r = .returned (.tuple #[.slice o (listsOf (textOf S.now p.data.toList)).length c, .bool (wholeB (textOf S.now p.data.toList))]) ∧
      ReadsFF (fun n => w.heap.size ≤ n) w' (.slice o (listsOf (textOf S.now p.data.toList)).length c) (LLtxt (listsOf (textOf S.now p.data.toList))) ∧ Below w.heap.size w w' := by
  obtain ⟨X, hX⟩ := h.lookR
  have hR : Calls Tryz.prog 87 #[.pointer (some ⟨b, 0, none⟩), .string p] w fun r w' => (∃ c, r = .returned (.tuple #[.string (txt (textOf S.now p.data.toList)), .int .i64 c])) ∧ Below w.heap.size w w' := by
    refine (rRead_good b X p room n S w hX hg).mono fun r w' k => ⟨⟨(opRead S p.data.toList).2, ?_⟩, by rw [← k.2]; exact Below.refl _ _⟩
    rw [k.1]
    rw [read_text]
  have HR := Lib.hid hR
  clear hR hX hg
  generalize textOf S.now p.data.toList = T at *
  have hS : ∀ W, Below w.heap.size w W → Calls Tryz.prog 88 #[.string (txt T)] W fun r w' => ∃ o c, r = .returned (.tuple #[.slice o (listsOf T).length c, .int .i64 (endI T (scanOf T))]) ∧ ReadsFF (fun n => w.heap.size ≤ n) w' (.slice o (listsOf T).length c) (LLtxt (listsOf T)) ∧ Below w.heap.size w w' := by
    intro W hb
    refine (rscan_any (txt T) (by rw [txt_size]; exact ht) W).mono fun r w' k => ?_
    obtain ⟨o, c, k1, k2, k3⟩ := scan_shape_fresh k
    rw [txt_data] at k1 k2
    rw [scan_lists] at k2
    have hl : (scanOf T).length = (listsOf T).length := by unfold listsOf; rw [List.length_map]
    rw [hl] at k1 k2
    have := hb.size
    exact ⟨o, c, k1, k2.wider fun n hn _ => by omega, hb.trans (k3.mono this)⟩
  have HS := Lib.hid hS
  clear hS
  have hw : wholeB T = (endI T (scanOf T) == ((txt T).size : Int)) := by
    unfold wholeB; rw [txt_size, Bool.eq_iff_iff, decide_eq_true_iff, beq_iff_eq]
  rw [hw]
  clear hw
  have hz : (txt T).size ≤ 100000 := by rw [txt_size]; exact ht
  generalize endI T (scanOf T) = ei at *
  generalize LLtxt (listsOf T) = xss at *
  generalize (listsOf T).length = N at *
  generalize txt T = t at *
  go_enter Tryz.func57, Tryz.ntmps57
  go_wp2_with (first
    | (go_at_call 87; refine HR.out.mono ?_; rintro e w2 ⟨⟨c2, rfl⟩, h2⟩)
    | (go_at_call 88; refine (HS.out _ h2).mono ?_; rintro e w3 ⟨o, c, rfl, h3, h4⟩))
  go_ret2
  exact ⟨o, c, rfl, h3, h4⟩

set_option maxRecDepth 100000 in
set_option maxHeartbeats 4000000 in
theorem At.rjanew (h : At w1 Z room ((true, b, S) :: l) w) (hg : Good room n S) (hn : n < 268435400) (p : ByteArray) (hp : p.size ≤ 1048000) (v : Value) (xss : List (List ByteArray)) (hr : ReadsLL w w.heap.size v xss) (hx : xss.length ≤ maxLen) (hm : ∀ xs ∈ xss, xs.length ≤ maxLen ∧ ∀ x ∈ xs, x.size ≤ 1000000) (hb : Mod (rawLL xss)) :
    Calls Tryz.prog 33 #[.pointer (some ⟨b, 0, none⟩), .string p, v] w fun r w' => r = .returned (.int .i64 (jAnew room S p.data.toList (rawLL xss)).1) ∧ At w1 Z room ((true, b, (jAnew room S p.data.toList (rawLL xss)).2) :: l) w' := by
  unfold maxLen at hx
  have hbs : (bes p).size ≤ 1048576 := by rw [bes_size]; omega
  have e3 : ¬ 9223372036854775807 < p.size + 4 := by omega
  have hQ : Calls Tryz.prog 49 #[.string (p ++ ⟨#[46, 110, 101, 119]⟩)] w fun e w' => e = .returned (.bool (pathB (besideL p.data.toList))) ∧ w = w' := by
    have := refPath_any (bes p) w
    rw [bes_list] at this
    exact this
  obtain ⟨q, hq⟩ : ∃ q, q = besideL p.data.toList := ⟨_, rfl⟩
  obtain ⟨J, hJ⟩ : ∃ J, J = jAnew room S p.data.toList (rawLL xss) := ⟨_, rfl⟩
  rw [← hJ]
  have hqb : (bes p).data.toList = q := by rw [bes_list, hq]
  rw [← hq] at hQ
  have HX : Hid (∀ wr, Below w.heap.size w wr → ReadsLL wr wr.heap.size v xss) := fun wr hb => hr.below hb hb.size
  obtain ⟨o, c, rfl, _⟩ := hr
  have HM := Lib.hid hm
  have HD := Lib.hid hb
  have HZ : Hid (∀ W, Below w.heap.size w W → At w1 Z room ((true, b, S) :: l) W) := fun W hb => h.below hb
  have HQ := Lib.hid hQ
  by_cases hpb : pathB q = true
  · rw [hpb] at HQ
    obtain ⟨L, hL⟩ : ∃ L, L = linesOfAll (rawLL xss) := ⟨_, rfl⟩
    obtain ⟨cW, hcW⟩ : ∃ c, c = (opW room S q L).1 := ⟨_, rfl⟩
    obtain ⟨SW, hSW⟩ : ∃ X, X = (opW room S q L).2 := ⟨_, rfl⟩
    obtain ⟨cN, hcN⟩ : ∃ c, c = (opN SW q p.data.toList).1 := ⟨_, rfl⟩
    obtain ⟨SN, hSN⟩ : ∃ X, X = (opN SW q p.data.toList).2 := ⟨_, rfl⟩
    obtain ⟨S9, hS9⟩ : ∃ X, X = (opR SW q).2 := ⟨_, rfl⟩
    obtain ⟨S8, hS8⟩ : ∃ X, X = (opR SN q).2 := ⟨_, rfl⟩
    obtain ⟨S7, hS7⟩ : ∃ X, X = opS SN := ⟨_, rfl⟩
    have hj : J = if putC (rawLL xss) = 0 then (if cW = 0 then (if cN = 0 then (0, S7) else (cN, S8)) else (cW, S9)) else (putC (rawLL xss), S) := by
      rw [hJ, hS7, hS8, hS9, hcN, hSN, hcW, hSW, hL, hq]
      unfold jAnew
      rw [if_pos (by rw [← hq]; exact hpb)]
    have gW : Good room (n + 1) SW := by rw [hSW]; exact hg.opW _ _
    have gN : Good room (n + 2) SN := by rw [hSN]; exact gW.opN _ _
    have HW : Hid (∀ W, At w1 Z room ((true, b, S) :: l) W → L.length ≤ 1048576 → Calls Tryz.prog 59 #[.pointer (some ⟨b, 0, none⟩), .string (p ++ ⟨#[46, 110, 101, 119]⟩), .string (txt L)] W fun r w' => r = .returned (.int .i64 cW) ∧ At w1 Z room ((true, b, SW) :: l) w') := by
      intro W hW hl
      have := hW.rwrite hg (by omega) (bes p) (txt L) hbs (by rw [txt_size]; exact hl)
      rw [hqb, txt_data, ← hcW, ← hSW] at this
      exact this
    have HN : Hid (∀ W, At w1 Z room ((true, b, SW) :: l) W → Calls Tryz.prog 60 #[.pointer (some ⟨b, 0, none⟩), .string (p ++ ⟨#[46, 110, 101, 119]⟩), .string p] W fun r w' => r = .returned (.int .i64 cN) ∧ At w1 Z room ((true, b, SN) :: l) w') := by
      intro W hW
      have := hW.rrename gW (by omega) (bes p) p (by omega)
      rw [hqb, ← hcN, ← hSN] at this
      exact this
    have HR9 : Hid (∀ W, At w1 Z room ((true, b, SW) :: l) W → Calls Tryz.prog 56 #[.pointer (some ⟨b, 0, none⟩), .string (p ++ ⟨#[46, 110, 101, 119]⟩)] W fun r w' => (∃ c, r = .returned (.int .i64 c)) ∧ At w1 Z room ((true, b, S9) :: l) w') := by
      intro W hW
      have := hW.rremove gW (by omega) (bes p)
      rw [hqb, ← hS9] at this
      exact this.mono fun _ _ k => ⟨⟨_, k.1⟩, k.2⟩
    have HR8 : Hid (∀ W, At w1 Z room ((true, b, SN) :: l) W → Calls Tryz.prog 56 #[.pointer (some ⟨b, 0, none⟩), .string (p ++ ⟨#[46, 110, 101, 119]⟩)] W fun r w' => (∃ c, r = .returned (.int .i64 c)) ∧ At w1 Z room ((true, b, S8) :: l) w') := by
      intro W hW
      have := hW.rremove gN (by omega) (bes p)
      rw [hqb, ← hS8] at this
      exact this.mono fun _ _ k => ⟨⟨_, k.1⟩, k.2⟩
    have HS : Hid (∀ W, At w1 Z room ((true, b, SN) :: l) W → Calls Tryz.prog 58 #[.pointer (some ⟨b, 0, none⟩)] W fun r w' => r = .returned (.tuple #[]) ∧ At w1 Z room ((true, b, S7) :: l) w') := by
      intro W hW
      rw [hS7]
      exact hW.rsync
    have HJ := Lib.hid hj
    have HL := Lib.hid hL
    clear hj hJ hL hcW hSW hcN hSN hS9 hS8 hS7 gW gN hqb hQ hm hb h hg hbs hq hpb
    go_enter Tryz.func33, Tryz.ntmps33
    go_wp2_with (go_at_call 49; refine HQ.out.mono ?_; rintro e w2 ⟨rfl, rfl⟩)
    go_loopw [8, 9] (fun tv iv wr => ∃ (k : Nat) (s : ByteArray), k ≤ xss.length ∧ iv = .int .i64 k ∧ tv = .string s ∧ Hid (s = txt (linesOfAll ((rawLL xss).take k))) ∧ Hid (∀ x ∈ (rawLL xss).take k, Fit x) ∧ Below w.heap.size w wr) (fun _ iv _ => xss.length - (intOf iv).toNat)
    case atStart => exact ⟨0, _, Nat.zero_le _, rfl, rfl, rfl, (by intro x hx; simp at hx), Below.refl _ _⟩
    case round =>
      obtain ⟨k, s, hk, rfl, rfl, HE, HF, hB⟩ := hrel
      have hsz := hB.size
      have hmod := HD.out k HF.out
      have hss : s.size ≤ 1048576 := by rw [HE.out, txt_size]; exact hmod
      by_cases hlt : k < xss.length
      · obtain ⟨o', c', hv', hcell0⟩ := HX.out wr hB
        cases hv'
        obtain ⟨bb, f, u, rfl, hbB, hkc, hcell, hu⟩ := hcell0 k xss[k] (List.getElem?_eq_getElem hlt)
        clear hcell0 hmod
        have hkc' : k < c := by omega
        obtain ⟨hl1, hl2⟩ := HM.out xss[k] (List.getElem_mem hlt)
        have HP := Lib.hid (rput_c u xss[k] wr hu hl1 hl2)
        have hat := raw_at hlt
        generalize rawOf xss[k] = x at HP hat
        clear hl1 hl2 hu
        by_cases hfit : Fit x
        · have HN2 : Hid (s ++ txt (lineOf x) = txt (linesOfAll ((rawLL xss).take (k + 1)))) := by
            show _ = _
            rw [lines_next hat, HE.out, txt_append]
          have HF2 : Hid (∀ x ∈ (rawLL xss).take (k + 1), Fit x) := fits_next hat HF.out hfit
          have hlb := line_bound hfit
          rw [putT_fit hfit, lineC_fit hfit] at HP
          have hqt : (txt (lineOf x)).size ≤ 13000 := by rw [txt_size]; exact hlb
          clear hat hfit hlb HE
          generalize txt (lineOf x) = tq at HP hqt HN2
          have e4 : ¬ 9223372036854775807 < s.size + tq.size := by omega
          go_wp2_with fail
          refine HP.out.mono ?_
          rintro e w3 ⟨rfl, hb3⟩
          have hB3 := hB.trans (hb3.mono hsz)
          go_wp2_with fail
          go_roundw
          case rel => exact ⟨k + 1, _, hlt, by go_num, rfl, HN2.out, HF2.out, hB3⟩
          case measure => simp [intOf]; omega
        · have hc := putC_at HF.out hat hfit
          have hne := lineC_ne hfit
          have HN2 : Hid (J = (lineC x, S)) := by
            show _ = _
            rw [HJ.out, hc, if_neg]
            simpa using hne
          generalize lineC x = cd at *
          generalize putT x = pt at *
          clear hat hfit hc
          go_wp2_with fail
          refine HP.out.mono ?_
          rintro e w3 ⟨rfl, hb3⟩
          have hA := HZ.out _ (hB.trans (hb3.mono hsz))
          go_wp2_with fail
          go_ret
          rw [HN2.out]
          exact ⟨rfl, hA⟩
      · obtain rfl : k = xss.length := by omega
        have hrl : (rawLL xss).length = xss.length := by simp [rawLL]
        have htk : (rawLL xss).take xss.length = rawLL xss := by rw [← hrl, List.take_length]
        have h1 := HF.out
        rw [htk] at h1 hmod
        have h2 := HE.out
        rw [htk, ← HL.out] at h2
        rw [← HL.out] at hmod
        have hj := HJ.out
        rw [if_pos (putC_fit h1)] at hj
        subst h2
        have hA := HZ.out _ hB
        have HL9 := Lib.hid hmod
        clear h1 htk hrl HE HF hmod HL hss
        by_cases z1 : cW = 0
        · rw [if_pos z1] at hj
          subst z1
          by_cases z2 : cN = 0
          · rw [if_pos z2] at hj
            subst z2
            subst hj
            go_wp2_with (first
              | (go_at_call 59; refine (HW.out _ hA HL9.out).mono ?_; rintro e w4 ⟨rfl, h4⟩)
              | (go_at_call 60; refine (HN.out _ h4).mono ?_; rintro e w5 ⟨rfl, h5⟩)
              | (go_at_call 58; refine (HS.out _ h5).mono ?_; rintro e w6 ⟨rfl, h6⟩))
            go_ret
            exact ⟨rfl, h6⟩
          · rw [if_neg z2] at hj
            have e5 : (cN != 0) = true := by simpa using z2
            subst hj
            clear z2
            go_wp2_with (first
              | (go_at_call 59; refine (HW.out _ hA HL9.out).mono ?_; rintro e w4 ⟨rfl, h4⟩)
              | (go_at_call 60; refine (HN.out _ h4).mono ?_; rintro e w5 ⟨rfl, h5⟩)
              | (go_at_call 56; refine (HR8.out _ h5).mono ?_; rintro e w6 ⟨⟨c6, rfl⟩, h6⟩))
            go_ret
            exact ⟨rfl, h6⟩
        · rw [if_neg z1] at hj
          have e5 : (cW != 0) = true := by simpa using z1
          subst hj
          clear z1
          go_wp2_with (first
            | (go_at_call 59; refine (HW.out _ hA HL9.out).mono ?_; rintro e w4 ⟨rfl, h4⟩)
            | (go_at_call 56; refine (HR9.out _ h4).mono ?_; rintro e w5 ⟨⟨c5, rfl⟩, h5⟩))
          go_ret
          exact ⟨rfl, h5⟩
  · have e0 : pathB q = false := by simpa using hpb
    rw [e0] at HQ
    have hj : J = (1, S) := by
      rw [hJ]
      unfold jAnew
      rw [if_neg (by rw [← hq]; exact hpb)]
    subst hj
    clear hpb e0 hm hb HX HM HD hqb hQ hJ hq hbs hg
    have hA := HZ.out w (Below.refl _ _)
    go_enter Tryz.func33, Tryz.ntmps33
    go_wp2_with (go_at_call 49; refine HQ.out.mono ?_; rintro e w2 ⟨rfl, rfl⟩)
    go_ret
    exact ⟨rfl, hA⟩

set_option maxRecDepth 100000 in
set_option maxHeartbeats 4000000 in
theorem At.rjadd (h : At w1 Z room ((true, b, S) :: l) w) (hg : Good room n S) (hn : n < 268435400) (p : ByteArray) (hp : p.size ≤ 1048000) (v : Value) (xs : List ByteArray) (hr : ReadsO w w.heap.size v xs) (hm : xs.length ≤ maxLen ∧ ∀ x ∈ xs, x.size ≤ 1000000) :
    Calls Tryz.prog 20 #[.pointer (some ⟨b, 0, none⟩), .string p, v] w fun r w' => r = .returned (.int .i64 (jAdd room S p.data.toList (rawOf xs)).1) ∧ At w1 Z room ((true, b, (jAdd room S p.data.toList (rawOf xs)).2) :: l) w' := by
  have e3 : ¬ 9223372036854775807 < p.size + 4 := by omega
  have HQ : Hid (Calls Tryz.prog 49 #[.string (p ++ ⟨#[46, 110, 101, 119]⟩)] w fun e w' => e = .returned (.bool (pathB (besideL p.data.toList))) ∧ w = w') := by
    have := refPath_any (bes p) w
    rw [bes_list] at this
    exact this
  have HT : Hid (Calls Tryz.prog 50 #[v] w fun e w' => e = .returned (.tuple #[.string (putT (rawOf xs)), .int .i64 (lineC (rawOf xs))]) ∧ At w1 Z room ((true, b, S) :: l) w') :=
    (rput_c v xs w hr hm.1 hm.2).mono fun _ _ k => ⟨k.1, h.below k.2⟩
  obtain ⟨vo, vc, rfl⟩ : ∃ o c, v = .slice o xs.length c := by
    obtain ⟨o, c, h, _⟩ := hr
    exact ⟨o, c, h⟩
  unfold jAdd
  by_cases hpb : pathB (besideL p.data.toList) = true
  · rw [if_pos hpb]
    rw [hpb] at HQ
    by_cases h0 : lineC (rawOf xs) = 0
    · rw [if_pos h0]
      have ht : putT (rawOf xs) = txt (lineOf (rawOf xs)) := putT_fit (fit_lineC h0)
      have hts : (txt (lineOf (rawOf xs))).size ≤ 1048576 := by rw [txt_size]; have := line_bound (fit_lineC h0); omega
      rw [ht, h0] at HT
      have HA : Hid (∀ W, At w1 Z room ((true, b, S) :: l) W → Calls Tryz.prog 51 #[.pointer (some ⟨b, 0, none⟩), .string p, .string (txt (lineOf (rawOf xs)))] W fun r w' => r = .returned (.int .i64 (opA room S p.data.toList (lineOf (rawOf xs))).1) ∧ At w1 Z room ((true, b, (opA room S p.data.toList (lineOf (rawOf xs))).2) :: l) w') := by
        intro W hW
        have := hW.rappend hg (by omega) p (txt (lineOf (rawOf xs))) (by omega) hts
        rwa [txt_data] at this
      clear ht hts hpb h0 hm hg hr h
      generalize opA room S p.data.toList (lineOf (rawOf xs)) = R at *
      generalize txt (lineOf (rawOf xs)) = t at *
      go_enter Tryz.func20, Tryz.ntmps20
      go_wp2_with (first
        | (go_at_call 49; refine HQ.out.mono ?_; rintro e w2 ⟨rfl, rfl⟩)
        | (go_at_call 50; refine HT.out.mono ?_; rintro e w3 ⟨rfl, h3⟩)
        | (go_at_call 51; refine (HA.out _ h3).mono ?_; rintro e w4 ⟨rfl, h4⟩))
      go_ret
      exact ⟨rfl, h4⟩
    · rw [if_neg h0]
      have e0 : (lineC (rawOf xs) != 0) = true := by simpa using h0
      clear hpb h0 hm hg hr h
      generalize lineC (rawOf xs) = cd at *
      generalize putT (rawOf xs) = t at *
      go_enter Tryz.func20, Tryz.ntmps20
      go_wp2_with (first
        | (go_at_call 49; refine HQ.out.mono ?_; rintro e w2 ⟨rfl, rfl⟩)
        | (go_at_call 50; refine HT.out.mono ?_; rintro e w3 ⟨rfl, h3⟩))
      go_ret
      exact ⟨rfl, h3⟩
  · rw [if_neg hpb]
    have e0 : pathB (besideL p.data.toList) = false := by simpa using hpb
    rw [e0] at HQ
    clear hpb e0 hm hg HT hr
    go_enter Tryz.func20, Tryz.ntmps20
    go_wp2_with (go_at_call 49; refine HQ.out.mono ?_; rintro e w2 ⟨rfl, rfl⟩)
    go_ret
    exact ⟨rfl, h⟩

set_option maxRecDepth 100000 in
set_option maxHeartbeats 4000000 in
theorem At.rjopen (h : At w1 Z room ((true, b, S) :: l) w) (hg : Good room n S) (hn : n < 268435300) (p : ByteArray) (hp : p.size ≤ 1048000) (ht : ∀ q, (textOf S.now q).length ≤ 100000) :
    Calls Tryz.prog 32 #[.pointer (some ⟨b, 0, none⟩), .string p] w (OpenPost w1 Z room l true b (jOpen room S p.data.toList)) := by
  have e3 : ¬ 9223372036854775807 < p.size + 4 := by omega
  have HQ : Hid (Calls Tryz.prog 49 #[.string (p ++ ⟨#[46, 110, 101, 119]⟩)] w fun e w' => e = .returned (.bool (pathB (besideL p.data.toList))) ∧ At w1 Z room ((true, b, S) :: l) w') := by
    have := refPath_any (bes p) w
    rw [bes_list] at this
    exact this.mono fun _ _ k => ⟨k.1, by rw [← k.2]; exact h⟩
  have HX : Hid (∀ W, At w1 Z room ((true, b, S) :: l) W → Calls Tryz.prog 56 #[.pointer (some ⟨b, 0, none⟩), .string (p ++ ⟨#[46, 110, 101, 119]⟩)] W fun r w' => (∃ c, r = .returned (.int .i64 c)) ∧ At w1 Z room ((true, b, (opR S (besideL p.data.toList)).2) :: l) w') := by
    intro W hW
    have := hW.rremove hg (by omega) (bes p)
    rw [bes_list] at this
    exact this.mono fun _ _ k => ⟨⟨_, k.1⟩, k.2⟩
  have hg1 := hg.opR (besideL p.data.toList)
  have hT1 : (textOf (opR S (besideL p.data.toList)).2.now p.data.toList).length ≤ 100000 := by
    rw [opR_now, text_drp_other hg.files.srt (beside_ne _)]; exact ht _
  unfold jOpen
  have h0 := h
  clear h ht
  by_cases hpb : pathB (besideL p.data.toList) = true
  · rw [if_pos hpb]
    rw [hpb] at HQ
    clear hpb hg
    generalize (opR S (besideL p.data.toList)).2 = S1 at *
    have HR : Hid (∀ W, At w1 Z room ((true, b, S1) :: l) W → Calls Tryz.prog 57 #[.pointer (some ⟨b, 0, none⟩), .string p] W fun r w' => ∃ o c Z5, r = .returned (.tuple #[.slice o (listsOf (textOf S1.now p.data.toList)).length c, .bool (wholeB (textOf S1.now p.data.toList))]) ∧
        ReadsFF (fun n => ¬ Z5 n ∧ w1.heap.size ≤ n) w' (.slice o (listsOf (textOf S1.now p.data.toList)).length c) (LLtxt (listsOf (textOf S1.now p.data.toList))) ∧ At w' Z5 room ((true, b, S1) :: l) w' ∧ Turned Z w1 w' ∧ ∀ n, Z5 n → Z n) := by
      intro W hW
      refine (hW.rjread hg1 p hT1).mono fun r w' k => ?_
      obtain ⟨o, c, k1, k2, k3⟩ := k
      obtain ⟨Z5, q1, q2, q3, q4⟩ := TreeS.same W hW k3
      exact ⟨o, c, Z5, k1, k2.wider (fun n hn hlt => ⟨q4 n hn hlt, Nat.le_trans hW.1.size hn⟩), q1, q2, q3⟩
    have HS : Hid (∀ w5 Z5 W, At w5 Z5 room ((true, b, S1) :: l) W → Calls Tryz.prog 58 #[.pointer (some ⟨b, 0, none⟩)] W fun r w' => r = .returned (.tuple #[]) ∧ At w5 Z5 room ((true, b, opS S1) :: l) w') :=
      fun w5 Z5 W hW => hW.rsync
    have HA : Hid (∀ w5 Z5 o c, At w5 Z5 room ((true, b, S1) :: l) w5 → ReadsFF (fun n => ¬ Z5 n ∧ w1.heap.size ≤ n) w5 (.slice o (listsOf (textOf S1.now p.data.toList)).length c) (LLtxt (listsOf (textOf S1.now p.data.toList))) →
        Calls Tryz.prog 33 #[.pointer (some ⟨b, 0, none⟩), .string p, .slice o (listsOf (textOf S1.now p.data.toList)).length c] w5 fun r w' => r = .returned (.int .i64 (jAnew room S1 p.data.toList (listsOf (textOf S1.now p.data.toList))).1) ∧ At w5 Z5 room ((true, b, (jAnew room S1 p.data.toList (listsOf (textOf S1.now p.data.toList))).2) :: l) w') := by
      intro w5 Z5 o c h5 h6
      have hc := lists_count (textOf S1.now p.data.toList)
      have := h5.rjanew hg1 (by omega) p hp _ _ h6.reads (by unfold LLtxt; rw [List.length_map]; unfold maxLen; omega) (fits_ok (lists_fit _)) (by rw [raw_txt]; exact mod_lines (by omega))
      rwa [raw_txt] at this
    have hnil : ∀ W, ReadsFF (fun n => ¬ Z n) W (.slice none 0 0) (LLtxt []) := fun W => ⟨none, 0, rfl, fun i xs hi => by simp [LLtxt] at hi⟩
    clear hT1 hg1
    cases hw : wholeB (textOf S1.now p.data.toList) with
    | true =>
      rw [if_pos rfl]
      rw [hw] at HR
      clear hw HA
      generalize opS S1 = S9 at *
      generalize listsOf (textOf S1.now p.data.toList) = ls at *
      go_enter Tryz.func32, Tryz.ntmps32
      go_wp2_with (first
        | (go_at_call 49; refine HQ.out.mono ?_; rintro e w2 ⟨rfl, h2⟩)
        | (go_at_call 56; refine (HX.out _ h2).mono ?_; rintro e w4 ⟨⟨c4, rfl⟩, h4⟩)
        | (go_at_call 57; refine (HR.out _ h4).mono ?_; rintro e w5 ⟨o, c, Z5, rfl, h5, h6, h7, h8⟩)
        | (go_at_call 58; refine (HS.out _ _ _ h6).mono ?_; rintro e w9 ⟨rfl, h9⟩))
      go_ret2
      exact ⟨o, c, w5, Z5, rfl, h5, h9, h7, h8⟩
    | false =>
      rw [if_neg (by simp)]
      rw [hw] at HR
      clear hw HS
      generalize listsOf (textOf S1.now p.data.toList) = ls at *
      generalize jAnew room S1 p.data.toList ls = R at *
      obtain ⟨cR, SR⟩ := R
      by_cases h0' : cR = 0
      · subst h0'
        rw [if_pos rfl]
        go_enter Tryz.func32, Tryz.ntmps32
        go_wp2_with (first
          | (go_at_call 49; refine HQ.out.mono ?_; rintro e w2 ⟨rfl, h2⟩)
          | (go_at_call 56; refine (HX.out _ h2).mono ?_; rintro e w4 ⟨⟨c4, rfl⟩, h4⟩)
          | (go_at_call 57; refine (HR.out _ h4).mono ?_; rintro e w5 ⟨o, c, Z5, rfl, h5, h6, h7, h8⟩)
          | (go_at_call 33; refine (HA.out _ _ _ _ h6 h5).mono ?_; rintro e w9 ⟨rfl, h9⟩))
        go_ret2
        exact ⟨o, c, w5, Z5, rfl, h5, h9, h7, h8⟩
      · have e0 : (cR != 0) = true := by simpa using h0'
        rw [if_neg h0']
        clear h0'
        go_enter Tryz.func32, Tryz.ntmps32
        go_wp2_with (first
          | (go_at_call 49; refine HQ.out.mono ?_; rintro e w2 ⟨rfl, h2⟩)
          | (go_at_call 56; refine (HX.out _ h2).mono ?_; rintro e w4 ⟨⟨c4, rfl⟩, h4⟩)
          | (go_at_call 57; refine (HR.out _ h4).mono ?_; rintro e w5 ⟨o, c, Z5, rfl, h5, h6, h7, h8⟩)
          | (go_at_call 33; refine (HA.out _ _ _ _ h6 h5).mono ?_; rintro e w9 ⟨rfl, h9⟩))
        go_ret2
        exact ⟨none, 0, w5, Z5, rfl, ⟨none, 0, rfl, fun i xs hi => by simp [LLtxt] at hi⟩, h9, h7, h8⟩
  · rw [if_neg hpb]
    have e0 : pathB (besideL p.data.toList) = false := by simpa using hpb
    rw [e0] at HQ
    clear hpb e0 hg HX hg1 hT1
    go_enter Tryz.func32, Tryz.ntmps32
    go_wp2_with (go_at_call 49; refine HQ.out.mono ?_; rintro e w2 ⟨rfl, h2⟩)
    go_ret2
    exact ⟨none, 0, w1, Z, rfl, ⟨none, 0, rfl, fun i xs hi => by simp [LLtxt] at hi⟩, h2, (turned_below (Below.refl _ w1)).wider fun _ h => h.elim, fun _ h => h⟩
end

end Go.Proofs.YtchnbnmajagpjaaGreatDoor
