/-
  What the program's Cut answers, for every text of at most a million bytes and every row of signs. No condition.
-/
import Derived.Test.YtldddecaeloohaaDoorQC
namespace Go.Proofs.YtldddecaeloohaaDoor
open Go.RowKit Go.Shelf
attribute [local go_sem] Oper.semAt_some

abbrev encByte (b : UInt8) : Value := .int .u8 (b.toNat : Int)
def stB (st : List UInt8) : List Value := st.reverse.map encByte
theorem stB_cons (b : UInt8) (st : List UInt8) : stB (b :: st) = stB st ++ [encByte b] := by simp [stB]
theorem stB_len (st : List UInt8) : (stB st).length = st.length := by simp [stB]
theorem byteInfo : (Tryd.prog.info? 5).map (fun i => (i.zero, i.size, i.bytes)) = some (some (.int .u8 0), 1, 1) := by kernel_rfl
theorem Stk.pushU {b : Nat} {v : Value} {st : List UInt8} {W : World} (h : Stk b v (stB st) W) (q : UInt8) (hl : st.length < 1073741824) (ty E : TypeId) :
    ∃ v' W', (Builtin.append_ #[72, 72] ty #[v, .slice (some ⟨W.heap.size, 0, none⟩) 1 1]).run Tryd.prog (W.alloc (.cells #[.int .u8 (q.toNat : Int)] E)) = .ok v' W' ∧ Stk b v' (stB (q :: st)) W' ∧ Turned (fun n => v.ownBlock = some n) W W' := by
  obtain ⟨i, h1, h2, h3, h4⟩ := info_parts byteInfo
  rw [stB_cons]
  exact Stk.push (P := Tryd.prog) (x := encByte q) Tryd.underlying72 h1 h2 h3 (by omega) rfl h rfl (by rw [stB_len]; exact hl) ty E
theorem Stk.start (w : World) (cs : Array Value) (T : TypeId) (n : Nat) (hn : n ≤ cs.size) (hm : n ≤ maxLen) : Stk w.heap.size (.slice (some ⟨w.heap.size, 0, none⟩) 0 n) [] (w.alloc (.cells cs T)) :=
  ⟨w.heap.size, n, cs, T, rfl, Nat.le_refl _, World.alloc_heap_new w _, Nat.zero_le _, hm, hn, by simp⟩
theorem Stk.startU (w : World) (cs : Array Value) (T : TypeId) (n : Nat) (hn : n ≤ cs.size) (hm : n ≤ maxLen) : Stk w.heap.size (.slice (some ⟨w.heap.size, 0, none⟩) 0 n) (stB []) (w.alloc (.cells cs T)) := Stk.start w cs T n hn hm
theorem Stk.shapeU {b : Nat} {v : Value} {st : List UInt8} {W : World} (h : Stk b v (stB st) W) : ∃ g cap, v = .slice (some ⟨g, 0, none⟩) st.length cap ∧ st.length ≤ cap ∧ ∀ q st', st = q :: st' → W.cell? ⟨g, st'.length, none⟩ = some (encByte q) := by
  obtain ⟨g, cap, cur, T, h1, h2, h3, h4, h5⟩ := id h
  rw [stB_len] at h1 h4
  refine ⟨g, cap, h1, h4, ?_⟩
  rintro q st' rfl
  rw [stB_cons] at h
  obtain ⟨g', cap', e, _, hc⟩ := h.top
  rw [h1] at e
  simp only [Value.slice.injEq, Option.some.injEq, Addr.mk.injEq, and_true] at e
  obtain ⟨rfl, _⟩ := e
  rwa [stB_len] at hc
theorem list_at (s : ByteArray) (i : Nat) (h : i < s.size) : s.data.toList[i]'(by rw [size_list]; exact h) = s[i] := rfl

set_option maxRecDepth 100000 in
set_option maxHeartbeats 8000000 in
theorem pcut_any (v : Value) (sg : List BS) (s : ByteArray) (w : World) (hr : ReadsO w w.heap.size v (sg.map txt)) (hsg : sg.length ≤ 1000) (hsl : ∀ x ∈ sg, x.length ≤ 1000000) (hs : s.size ≤ 1000000) :
    Calls Tryd.prog 19 #[.string s, v] w (Cut3Post (cutOf sg s.data.toList) w) := by
  have HR := Lib.hid hr
  have HBg : Hid (∀ (i : Nat) W, Below w.heap.size w W → Calls Tryd.prog 36 #[.string (s.extract i s.size), v] W fun e w' => e = .returned (.string (txt ((signAt sg (s.data.toList.drop i)).getD []))) ∧ w' = W) := fun i W hW => by
    have := begun_any v sg (s.extract i s.size) W (HR.out.below hW hW.size) hsg
    rwa [Lib.extract_to_end] at this
  have HOp : Hid (∀ (i : Nat) W, Calls Tryd.prog 35 #[.string (s.extract i s.size)] W fun e w' => e = .returned (.int .u8 (closeN (s.data.toList.drop i))) ∧ w' = W) := fun i W => by
    have := opening_any (s.extract i s.size) W
    rwa [Lib.extract_to_end] at this
  clear hr
  have HL := Lib.hid hsl
  clear hsl
  go_enter Tryd.func19, Tryd.ntmps19
  go_wp2_with fail
  have hB0 : ∀ cs T, Below w.heap.size w (w.alloc (.cells cs T)) := fun cs T => (Below.refl _ w).alloc (Nat.le_refl _) _
  go_loopw [8, 16] (fun ov iv wr => ∃ (i : Nat) (st : List UInt8), i ≤ s.size ∧ iv = .int .i64 i ∧ st.length ≤ i ∧ CutS sg s.data.toList st i ∧ Stk w.heap.size ov (stB st) wr ∧ Below w.heap.size w wr) (fun _ iv _ => s.size - (intOf iv).toNat)
  case atStart => exact ⟨0, [], Nat.zero_le _, rfl, Nat.le_refl _, CutS.start _ _, Stk.startU w _ _ 32 (by simp) (by decide), hB0 _ _⟩
  case round =>
    obtain ⟨i, st, hi, rfl, hst, hC, hS, hB⟩ := hrel
    have HC := Lib.hid hC
    have HB := Lib.hid hB
    clear hB0
    obtain ⟨g, cap, rfl, hcap, htop⟩ := hS.shapeU
    by_cases hlt : i < s.size
    · have hil : i < s.data.toList.length := by rw [size_list]; exact hlt
      have HO := Lib.hid (HOp.out i)
      have c1 : (i : Int) ≤ (s.size : Int) := by omega
      rcases hw : opens (s.data.toList.drop i) with _ | q
      · have e0 : closeN (s.data.toList.drop i) = 0 := by unfold closeN; rw [hw]
        rw [e0] at HO
        cases st with
        | nil =>
          have HG := Lib.hid (HBg.out i wr hB)
          cases hsg2 : signAt sg (s.data.toList.drop i) with
          | none =>
            rw [hsg2] at HG
            have HN := Lib.hid (hC.outside hil hw hsg2)
            have HS := Lib.hid hS
            clear hC hS hB hw hsg2 HR HBg HOp
            simp only [Option.getD_none] at HG
            have z0 : txt [] = (⟨#[]⟩ : ByteArray) := rfl
            rw [z0] at HG
            clear z0 htop
            obtain ⟨m, hm⟩ : ∃ m, m = ([] : List UInt8).length := ⟨_, rfl⟩
            rw [← hm] at hcap ⊢
            have HS' : Hid (Stk w.heap.size (.slice (some ⟨g, 0, none⟩) m cap) (stB []) wr) := by
              show Stk _ _ _ _
              rw [hm]; exact HS.out
            have dI : ¬ (0 : Int) ≤ (m : Int) - 1 := by simp at hm; omega
            have hm5 : m ≤ 5 := by simp at hm; omega
            clear hm HS
            go_wp2_with (first
              | (go_at_call 35; refine (HO.out _).mono ?_; rintro e w' ⟨rfl, hw'⟩; obtain rfl := hw'.symm)
              | (go_at_call 36; refine HG.out.mono ?_; rintro e w' ⟨rfl, hw'⟩; obtain rfl := hw'.symm))
            go_roundw
            case rel => exact ⟨i + 1, [], hlt, by go_num, Nat.zero_le _, HN.out, HS'.out, HB.out⟩
            case measure => simp [intOf]; omega
          | some x =>
            rw [hsg2] at HG
            have HE := Lib.hid (hC.hit hil hw hsg2)
            obtain ⟨hx1, hx2, hx3⟩ := sign_at hsg2
            have hxl := HL.out x hx1
            clear hC hS hB hw hsg2 HR HBg HOp
            simp only [Option.getD_some] at HG
            have hxe : (txt x).toList.isEmpty = false := by rw [txt_toL]; simpa using hx2
            have hfit : i + x.length ≤ s.size := by
              have := congrArg List.length hx3
              rw [List.length_append, List.length_drop, List.length_drop, size_list] at this
              have := List.length_pos_iff.2 hx2
              omega
            have c2 : (0 : Int) ≤ (i : Int) + (x.length : Int) := by omega
            have c3 : (i : Int) + (x.length : Int) ≤ (s.size : Int) := by omega
            have hxn : (txt x).size = x.length := txt_size x
            clear hx1 hx2 hx3 htop
            obtain ⟨m, hm⟩ : ∃ m, m = ([] : List UInt8).length := ⟨_, rfl⟩
            rw [← hm] at hcap ⊢
            have dI : ¬ (0 : Int) ≤ (m : Int) - 1 := by simp at hm; omega
            have hm5 : m ≤ 5 := by simp at hm; omega
            clear hm
            go_wp2_with (first
              | (go_at_call 35; refine (HO.out _).mono ?_; rintro e w' ⟨rfl, hw'⟩; obtain rfl := hw'.symm)
              | (go_at_call 36; refine HG.out.mono ?_; rintro e w' ⟨rfl, hw'⟩; obtain rfl := hw'.symm))
            go_quiet (fail)
            go_wp2
            go_ret3
            refine ⟨?_, HB.out.trans ((drewN_below _ _ _).mono HB.out.size)⟩
            have e1 : txt (s.data.toList.take i) = s.extract 0 i := by rw [extract_txt]; simp
            have e2 : txt (s.data.toList.drop (i + x.length)) = s.extract (i + x.length) s.size := by rw [extract_txt, take_rest]
            rw [HE.out]
            show _ = Ending.returned (.tuple #[.string (txt (s.data.toList.take i)), .string (txt x), .string (txt (s.data.toList.drop (i + x.length)))])
            rw [e1, e2]
            rfl
        | cons b st =>
          have hcell := htop b st rfl
          have htl : st.length + 1 ≤ cap := hcap
          have hst' : st.length + 1 ≤ i := hst
          clear htop hcap hst
          simp only [List.length_cons] at hS ⊢
          have dI : decide ((0 : Int) ≤ ((st.length : Int) + 1) - 1) = true := decide_eq_true (by omega)
          cases he : ((s[i].toNat : Int) == (b.toNat : Int)) with
          | true =>
            have hb : s.data.toList[i] = b := by
              rw [list_at s i hlt]
              exact UInt8.toNat_inj.1 (by have := beq_iff_eq.1 he; omega)
            have HN := Lib.hid (hC.close hil hw hb)
            have hS' := hS
            rw [stB_cons] at hS'
            have HS : Hid (Stk w.heap.size (.slice (some ⟨g, 0, none⟩) st.length cap) (stB st) wr) := by
              have := Stk.pop (l := stB st) (x := encByte b) (by rw [stB_len]; exact hS')
              rwa [stB_len] at this
            clear hC hS hS' hB hw hb HR HBg HOp
            go_wp2_with (first
              | (go_at_call 35; refine (HO.out _).mono ?_; rintro e w' ⟨rfl, hw'⟩; obtain rfl := hw'.symm))
            go_quiet (fail)
            have HS9 : Hid (Stk w.heap.size (.slice (some ⟨g, 0, none⟩) st.length cap) (stB st) (wr.drewN nq)) := HS.out.kept (drewN_below _ _ _)
            have HB9 : Hid (Below w.heap.size w (wr.drewN nq)) := HB.out.trans ((drewN_below _ _ _).mono HB.out.size)
            generalize wr.drewN nq = wz at HS9 HB9 ⊢
            go_wp2
            go_roundw
            case rel => exact ⟨i + 1, st, hlt, by go_num, by omega, HN.out, HS9.out, HB9.out⟩
            case measure => simp [intOf]; omega
          | false =>
            have hb : s.data.toList[i] ≠ b := by
              rw [list_at s i hlt]
              rintro rfl
              simp at he
            have HN := Lib.hid (hC.inside hil hw hb)
            have HS := Lib.hid hS
            clear hC hS hB hw hb HR HBg HOp
            go_wp2_with (first
              | (go_at_call 35; refine (HO.out _).mono ?_; rintro e w' ⟨rfl, hw'⟩; obtain rfl := hw'.symm))
            go_quiet (fail)
            have HS9 : Hid (Stk w.heap.size (.slice (some ⟨g, 0, none⟩) (st.length + 1) cap) (stB (b :: st)) (wr.drewN nq)) := HS.out.kept (drewN_below _ _ _)
            have HB9 : Hid (Below w.heap.size w (wr.drewN nq)) := HB.out.trans ((drewN_below _ _ _).mono HB.out.size)
            generalize wr.drewN nq = wz at HS9 HB9 ⊢
            go_wp2
            go_roundw
            case rel => exact ⟨i + 1, b :: st, hlt, by go_num, by simp; omega, HN.out, HS9.out, HB9.out⟩
            case measure => simp [intOf]; omega
      · have e0 : closeN (s.data.toList.drop i) = (q.toNat : Int) := by unfold closeN; rw [hw]
        rw [e0] at HO
        have hq : q = 41 ∨ q = 125 := by
          rcases opens_by (s.data.toList.drop i) with ⟨_, h⟩ | ⟨_, _, h⟩ | ⟨_, _, h⟩ <;> rw [hw] at h <;> simp at h
          · exact .inl h
          · exact .inr h
        have qn : ((q.toNat : Int) != 0) = true := by rcases hq with rfl | rfl <;> rfl
        obtain ⟨v2, w2, hrun, hS2, hT2⟩ := hS.pushU q (by omega) 72 5
        have HN := Lib.hid (hC.begin hil hw)
        have HS2 := Lib.hid hS2
        have HB2 : Hid (Below w.heap.size w w2) := HB.out.trans (hT2.below HB.out.size fun n hn => by
          obtain ⟨g', _, _, _, e, hg, _⟩ := hS
          rw [e] at hn
          simp only [Value.ownBlock, Option.some.injEq] at hn
          omega)
        clear hC hS hB hw hS2 hT2 HR HBg HOp e0 hq htop
        go_wp2_with (first
          | (go_at_call 35; refine (HO.out _).mono ?_; rintro e w' ⟨rfl, hw'⟩; obtain rfl := hw'.symm)
          | (at_builtin; refine wpList_append_eq rfl _ _ 72 rfl _ _ _ w2 rfl rfl hrun ?_)
          | go_in)
        go_roundw
        case rel => exact ⟨i + 1, q :: st, hlt, by go_num, by simp; omega, HN.out, HS2.out, HB2.out⟩
        case measure => simp [intOf]; omega
    · have HE := Lib.hid (hC.done (by rw [size_list]; omega))
      clear hC hS HR HBg HOp HC
      go_wp2
      go_ret3
      refine ⟨?_, HB.out⟩
      rw [HE.out, txt_toList]; rfl
end Go.Proofs.YtldddecaeloohaaDoor
