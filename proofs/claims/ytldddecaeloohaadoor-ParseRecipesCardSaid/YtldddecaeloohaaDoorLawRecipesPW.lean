/-
  ParseRecipes, over what each call of Parse and of Name tells: it answers true, and turns nothing that lay there. For every target, every row of texts.
-/
import Derived.Test.YtldddecaeloohaaDoorPRw
namespace Go.Proofs.YtldddecaeloohaaDoor
open Go.RowKit Go.Shelf
attribute [local go_sem] Oper.semAt_some

theorem tabs_len : ∀ (l : List BS) (no : Int), (tabsL no l).length = l.length
  | [], _ => rfl
  | t :: r, no => by show (tabsL (no + 1) r).length + 1 = _; rw [tabs_len r]; rfl
theorem tabs_snoc (t : BS) : ∀ (l : List BS) (no : Int), tabsL no (l ++ [t]) = tabsL no l ++ [((l.length : Int) + no, true, t)]
  | [], no => by show [(no, true, t)] = _; simp [tabsL]
  | x :: r, no => by
    show (no, true, x) :: tabsL (no + 1) (r ++ [t]) = (no, true, x) :: (tabsL (no + 1) r ++ _)
    rw [tabs_snoc t r, List.length_cons]
    congr 4
    omega
theorem tabs_mem : ∀ (l : List BS) (no : Int) (x : LineI), x ∈ tabsL no l → x.2.2 ∈ l
  | [], _, x, h => by cases h
  | t :: r, no, x, h => by
    rcases List.mem_cons.1 h with rfl | h
    · exact List.mem_cons_self
    · exact List.mem_cons_of_mem _ (tabs_mem r _ x h)
theorem In.readsL {w0 w : World} {L : List Own} {E : TypeId} {v : Value} {l : List LineI} (h : In w0 L w) (hm : oRow E 3 encL v l ∈ L) : ReadsL w w.heap.size v l := by
  obtain ⟨o, c, hv, h1, h2⟩ := h.rowShape (E := E) (k := 3) (enc := encL) (v := v) (l := l) hm (fun _ => rfl)
  refine ⟨o, c, hv, fun j x hj => ?_⟩
  obtain ⟨g, hg, hl, _, hc⟩ := h2 j x hj
  have c0 := hc 0 (by omega)
  have c1 := hc 1 (by omega)
  have c2 := hc 2 (by omega)
  rw [Nat.add_zero] at c0
  exact ⟨g, 0, hg, hl, h1, by rw [Nat.zero_add]; exact c0, by rw [Nat.zero_add]; exact c1, by rw [Nat.zero_add]; exact c2⟩
/-- Two rows of lines of the call's own. -/
def TwoR (w0 : World) (rv av : Value) (a b : List LineI) (w : World) : Prop := In w0 [oRow 47 3 encL rv a, oRow 47 3 encL av b] w
theorem TwoR.start {w0 w : World} (hb : Below w0.heap.size w0 w) (x : LineI) : TwoR w0 (.slice (some ⟨w.heap.size, 0, none⟩) 1 1) (.slice none 0 0) [x] [] (w.alloc (.cells (encL x).toArray 47)) := by
  refine ((In.nil hb).rowNil 47 3 encL).add ((Below.refl _ w).alloc (Nat.le_refl _) _) (X := fun n => n = w.heap.size) ⟨?_, fun g hg => ?_, fun m hm => ?_⟩ (fun n hn => by rw [hn]; exact Nat.le_refl _)
  · have := World.ownsRow_lit (e := 47) (base := 0) (size := 3) w (encL x).toArray 1 (Nat.zero_le _) (by decide) rfl
    simpa using this
  · simp [Value.ownBlock] at hg; exact hg.symm
  · rw [hm]; simp
theorem TwoR.slices {w0 w : World} {rv av : Value} {a b : List LineI} (h : TwoR w0 rv av a b w) : ∃ o c o' c', rv = .slice o a.length c ∧ av = .slice o' b.length c' := by
  obtain ⟨o, c, hv, _⟩ := In.rowShape (E := 47) (k := 3) (enc := encL) (v := rv) (l := a) h (by simp) (fun _ => rfl)
  obtain ⟨o', c', hv', _⟩ := In.rowShape (E := 47) (k := 3) (enc := encL) (v := av) (l := b) h (by simp) (fun _ => rfl)
  exact ⟨o, c, o', c', hv, hv'⟩
theorem TwoR.push {w0 w : World} {rv av : Value} {a b : List LineI} (h : TwoR w0 rv av a b w) (x : LineI) (ha : a.length ≤ 1000) (hb : b.length ≤ 1000) :
    ∃ o1 c1 w1 o2 c2 w2, (Builtin.append_ #[23, 23] 23 #[rv, .slice (some ⟨w.heap.size, 0, none⟩) 1 1]).run Tryd.prog (w.alloc (.cells (encL x).toArray 47)) = .ok (.slice o1 (a.length + 1) c1) w1 ∧
      (Builtin.append_ #[23, 23] 23 #[av, .slice (some ⟨w1.heap.size, 0, none⟩) 1 1]).run Tryd.prog (w1.alloc (.cells (encL x).toArray 47)) = .ok (.slice o2 (b.length + 1) c2) w2 ∧
      Below w0.heap.size w0 w1 ∧ TwoR w0 (.slice o1 (a.length + 1) c1) (.slice o2 (b.length + 1) c2) (a ++ [x]) (b ++ [x]) w2 := by
  have h1c : ∀ u ∈ encL x, u.oneCell' = true := fun u hu => by
    simp [encL] at hu
    rcases hu with rfl | rfl | rfl <;> simp [Value.oneCell']
  obtain ⟨o1, c1, w1, r1, h1⟩ := In.rowPush rowLexW h x rfl h1c (by omega) 23
  obtain ⟨o2, c2, w2, r2, h2⟩ := In.rowPush rowLexW h1.swap x rfl h1c (by omega) 23
  exact ⟨o1, c1, w1, o2, c2, w2, r1, r2, h1.back, h2.swap⟩

/-- As NameC, for texts of any length. -/
def NameU : Prop := ∀ (s : ByteArray) (w : World), s.size ≤ maxLen → Calls Tryd.prog 17 #[.string s] w fun e w' => e = .returned (.bool (nameB s.data.toList)) ∧ Below w.heap.size w w'

set_option maxRecDepth 100000 in
set_option maxHeartbeats 16000000 in
theorem parseRecipes_over (HP : ParseC) (HNm : NameU) (s0 : ByteArray) (_hs0 : s0.size ≤ maxLen) (v1 : Value) (xs1 : List ByteArray) (hn1 : xs1.length ≤ maxLen) (_hz1 : ∀ x ∈ xs1, x.size ≤ maxLen) (w : World) (hr1 : ReadsO w w.heap.size v1 xs1) :
    Calls Tryd.prog 9 #[.string s0, v1] w (LawPost w) := by
  have HSh := Lib.hid (shown9_at HP w w (Below.refl _ _))
  obtain ⟨sg, hsg⟩ : ∃ sg : List BS, xs1 = sg.map txt := ⟨xs1.map (·.data.toList), by rw [List.map_map]; conv => lhs; rw [← List.map_id xs1]
                                                                                      exact List.map_congr_left fun x _ => (txt_toList x).symm⟩
  subst hsg
  rw [List.length_map] at hn1
  obtain ⟨o, c, rfl, hx⟩ := id hr1
  have HR := Lib.hid hr1
  rw [List.length_map] at hx HR ⊢
  obtain ⟨n, hn⟩ : ∃ n, n = sg.length := ⟨_, rfl⟩
  rw [← hn] at hx HR hn1 ⊢
  have HX : Hid (∀ k x, sg[k]? = some x → ∃ b f, o = some ⟨b, f, none⟩ ∧ n ≤ c ∧ ∀ W, Below w.heap.size w W → W.cell? ⟨b, f + k, none⟩ = some (.string (txt x))) := fun k x hk => by
    obtain ⟨b, f, h1, h2, h3, h4⟩ := hx k (txt x) (by rw [List.getElem?_map, hk]; rfl)
    exact ⟨b, f, h1, h3, fun W hb => (hb.cell (p := ⟨b, f + k, none⟩) h2).trans h4⟩
  have HN := Lib.hid hn
  clear hx hn hr1
  have hnm : n ≤ 9223372036854775807 := hn1
  have hsm : s0.size ≤ 9223372036854775807 := _hs0
  by_cases h40 : 40 < n
  · have d1 : decide ((40 : Int) < (n : Int)) = true := decide_eq_true (by omega)
    go_enter Tryd.func9, Tryd.ntmps9
    go_wp2_with (go_at_call 10; refine HSh.out.mono ?_; rintro e w1 ⟨rfl, hb1⟩)
    go_ret
    exact ⟨rfl, hb1⟩
  have d1 : decide ((40 : Int) < (n : Int)) = false := decide_eq_false (by omega)
  have HN1 : Hid (∀ W, Calls Tryd.prog 17 #[.string s0] W fun e w' => e = .returned (.bool (nameB s0.data.toList)) ∧ Below W.heap.size W w') := fun W => HNm s0 W _hs0
  cases hname : nameB s0.data.toList with
  | false =>
    rw [hname] at HN1
    go_enter Tryd.func9, Tryd.ntmps9
    go_wp2_with (first
      | (go_at_call 10; refine HSh.out.mono ?_; rintro e w1 ⟨rfl, hb1⟩)
      | (go_at_call 17; refine (HN1.out _).mono ?_; rintro e w2 ⟨rfl, hb2⟩))
    go_ret
    exact ⟨rfl, hb1.trans (hb2.mono hb1.size)⟩
  | true =>
    rw [hname] at HN1
    have hs40 : s0.size ≤ 40 := by
      have := (name_clean hname).2.1
      rw [size_list] at this; exact this
    have T : ((s0.toList == [101, 108, 115, 101]) = true) ∨ ((s0.toList == [101, 108, 115, 101]) = false ∧ (s0.toList == [101, 110, 100, 105, 102]) = true) ∨ ((s0.toList == [101, 108, 115, 101]) = false ∧ (s0.toList == [101, 110, 100, 105, 102]) = false ∧ (s0.toList == [105, 110, 99, 108, 117, 100, 101]) = true) ∨ ((s0.toList == [101, 108, 115, 101]) = false ∧ (s0.toList == [101, 110, 100, 105, 102]) = false ∧ (s0.toList == [105, 110, 99, 108, 117, 100, 101]) = false ∧ (s0.toList == [45, 105, 110, 99, 108, 117, 100, 101]) = true) ∨ ((s0.toList == [101, 108, 115, 101]) = false ∧ (s0.toList == [101, 110, 100, 105, 102]) = false ∧ (s0.toList == [105, 110, 99, 108, 117, 100, 101]) = false ∧ (s0.toList == [45, 105, 110, 99, 108, 117, 100, 101]) = false ∧ (s0.toList == [105, 102, 101, 113]) = true) ∨ ((s0.toList == [101, 108, 115, 101]) = false ∧ (s0.toList == [101, 110, 100, 105, 102]) = false ∧ (s0.toList == [105, 110, 99, 108, 117, 100, 101]) = false ∧ (s0.toList == [45, 105, 110, 99, 108, 117, 100, 101]) = false ∧ (s0.toList == [105, 102, 101, 113]) = false ∧ (s0.toList == [105, 102, 110, 101, 113]) = true) ∨ ((s0.toList == [101, 108, 115, 101]) = false ∧ (s0.toList == [101, 110, 100, 105, 102]) = false ∧ (s0.toList == [105, 110, 99, 108, 117, 100, 101]) = false ∧ (s0.toList == [45, 105, 110, 99, 108, 117, 100, 101]) = false ∧ (s0.toList == [105, 102, 101, 113]) = false ∧ (s0.toList == [105, 102, 110, 101, 113]) = false ∧ (s0.toList == [105, 102, 100, 101, 102]) = true) ∨ ((s0.toList == [101, 108, 115, 101]) = false ∧ (s0.toList == [101, 110, 100, 105, 102]) = false ∧ (s0.toList == [105, 110, 99, 108, 117, 100, 101]) = false ∧ (s0.toList == [45, 105, 110, 99, 108, 117, 100, 101]) = false ∧ (s0.toList == [105, 102, 101, 113]) = false ∧ (s0.toList == [105, 102, 110, 101, 113]) = false ∧ (s0.toList == [105, 102, 100, 101, 102]) = false ∧ (s0.toList == [105, 102, 110, 100, 101, 102]) = true) ∨ ((s0.toList == [101, 108, 115, 101]) = false ∧ (s0.toList == [101, 110, 100, 105, 102]) = false ∧ (s0.toList == [105, 110, 99, 108, 117, 100, 101]) = false ∧ (s0.toList == [45, 105, 110, 99, 108, 117, 100, 101]) = false ∧ (s0.toList == [105, 102, 101, 113]) = false ∧ (s0.toList == [105, 102, 110, 101, 113]) = false ∧ (s0.toList == [105, 102, 100, 101, 102]) = false ∧ (s0.toList == [105, 102, 110, 100, 101, 102]) = false) := by
      generalize (s0.toList == [101, 108, 115, 101]) = x0
      generalize (s0.toList == [101, 110, 100, 105, 102]) = x1
      generalize (s0.toList == [105, 110, 99, 108, 117, 100, 101]) = x2
      generalize (s0.toList == [45, 105, 110, 99, 108, 117, 100, 101]) = x3
      generalize (s0.toList == [105, 102, 101, 113]) = x4
      generalize (s0.toList == [105, 102, 110, 101, 113]) = x5
      generalize (s0.toList == [105, 102, 100, 101, 102]) = x6
      generalize (s0.toList == [105, 102, 110, 100, 101, 102]) = x7
      cases x0 <;> cases x1 <;> cases x2 <;> cases x3 <;> cases x4 <;> cases x5 <;> cases x6 <;> cases x7 <;> simp
    rcases T with y0 | ⟨y0, y1⟩ | ⟨y0, y1, y2⟩ | ⟨y0, y1, y2, y3⟩ | ⟨y0, y1, y2, y3, y4⟩ | ⟨y0, y1, y2, y3, y4, y5⟩ | ⟨y0, y1, y2, y3, y4, y5, y6⟩ | ⟨y0, y1, y2, y3, y4, y5, y6, y7⟩ | ⟨y0, y1, y2, y3, y4, y5, y6, y7⟩
    iterate 8
      · go_enter Tryd.func9, Tryd.ntmps9
        go_wp2_with (first
          | (go_at_call 10; refine HSh.out.mono ?_; rintro e w1 ⟨rfl, hb1⟩)
          | (go_at_call 17; refine (HN1.out _).mono ?_; rintro e w2 ⟨rfl, hb2⟩))
        go_ret
        exact ⟨rfl, hb1.trans (hb2.mono hb1.size)⟩
    have hz : (s0 ++ ({ data := #[58, 32, 120] } : ByteArray)).data.toList = s0.data.toList ++ [58, 32, 120] := by simp
    have hzs : (s0 ++ ({ data := #[58, 32, 120] } : ByteArray)).size ≤ 43 := by
      rw [← size_list, hz]; simp only [List.length_append, size_list, List.length_cons, List.length_nil]; omega
    have HLaw : Hid (parseP ((1, false, s0.data.toList ++ [58, 32, 120]) :: tabsL 2 sg) = ([⟨2, 1, [], [], [], s0.data.toList, [], [120], [], sg⟩], 0, 0)) := by
      have h := recipes_law hname sg
      show _ = _
      rw [parseP_right (by rw [h]; show (0 : Int) ≠ 15; decide)]; exact h
    rw [← hz] at HLaw
    go_enter Tryd.func9, Tryd.ntmps9
    go_wp2_with (first
      | (go_at_call 10; refine HSh.out.mono ?_; rintro e w1 ⟨rfl, hb1⟩)
      | (go_at_call 17; refine (HN1.out _).mono ?_; rintro e w2 ⟨rfl, hb2⟩))
    have HB2 := Lib.hid (hb1.trans (hb2.mono hb1.size))
    clear hb1 hb2 HSh HN1 y0 y1 y2 y3 y4 y5 y6 y7
    obtain ⟨zl, hzl⟩ : ∃ zl : LineI, zl = (1, false, (s0 ++ ({ data := #[58, 32, 120] } : ByteArray)).data.toList) := ⟨_, rfl⟩
    have hS := TwoR.start HB2.out zl
    have hzz : (encL zl).toArray = #[.int .i64 1, .bool false, .string (s0 ++ ({ data := #[58, 32, 120] } : ByteArray))] := by
      rw [hzl]
      simp only [encL, txt_toList]
    rw [hzz] at hS
    rw [← hzl] at HLaw
    have HS := Lib.hid hS
    have HZ : Hid (zl.2.2.length ≤ 43) := by
      show _ ≤ _
      rw [hzl]
      simp only [size_list]; exact hzs
    clear hS hzz hzl hz
    go_loopw [6, 7, 8] (fun rv av iv wr => ∃ i : Nat, i ≤ n ∧ iv = .int .i64 i ∧ Hid (∀ x ∈ sg.take i, x.length ≤ 300) ∧ TwoR w rv av (zl :: tabsL 2 (sg.take i)) (tabsL 2 (sg.take i)) wr) (fun _ _ iv _ => n - (intOf iv).toNat)
    case atStart => exact ⟨0, Nat.zero_le _, rfl, (by show ∀ x ∈ _, _; simp), by simpa [tabsL] using HS.out⟩
    case round =>
      obtain ⟨i, hi, rfl, HSm, hR⟩ := hrel
      obtain ⟨q1, r1, q2, r2, rfl, rfl⟩ := hR.slices
      have htl : (sg.take i).length = i := by rw [List.length_take, ← HN.out]; omega
      rw [List.length_cons, tabs_len, htl] at hR ⊢
      by_cases hin : i < n
      · obtain ⟨x, hli⟩ : ∃ x, sg[i]? = some x := ⟨sg[i]'(by rw [← HN.out]; exact hin), List.getElem?_eq_getElem _⟩
        obtain ⟨b, f, rfl, hncap, hcell⟩ := HX.out i x hli
        have hc := hcell wr hR.back
        have htk : sg.take (i + 1) = sg.take i ++ [x] := by rw [List.take_add_one, hli]; rfl
        by_cases h300 : 300 < x.length
        · have d3 : decide ((300 : Int) < (x.length : Int)) = true := decide_eq_true (by omega)
          have HB := Lib.hid hR.back
          clear hR hcell hli htk
          go_wp2
          go_ret
          exact ⟨rfl, HB.out⟩
        · have d3 : decide ((300 : Int) < (x.length : Int)) = false := decide_eq_false (by omega)
          have HSm' : Hid (∀ y ∈ sg.take (i + 1), y.length ≤ 300) := fun y hy => by
            rw [htk] at hy
            rcases List.mem_append.1 hy with hy | hy
            · exact HSm.out y hy
            · rw [List.mem_singleton.1 hy]; omega
          obtain ⟨o1, c1, w1, o2, c2, w3, run1, run2, hb1, hR2⟩ := hR.push (((i : Nat) : Int) + 2, true, x) (by rw [List.length_cons, tabs_len, htl]; omega) (by rw [tabs_len, htl]; omega)
          rw [List.length_cons, tabs_len, htl] at run1 hR2
          rw [tabs_len, htl] at run2
          have e1 : (zl :: tabsL 2 (sg.take i)) ++ [(((i : Nat) : Int) + 2, true, x)] = zl :: tabsL 2 (sg.take (i + 1)) := by
            rw [htk, tabs_snoc, htl]; rfl
          have e2 : tabsL 2 (sg.take i) ++ [(((i : Nat) : Int) + 2, true, x)] = tabsL 2 (sg.take (i + 1)) := by
            rw [htk, tabs_snoc, htl]
          rw [e1, e2] at hR2
          have HR2 := Lib.hid hR2
          have hc1 := hcell w1 hb1
          clear hR hcell hli htk e1 e2 hR2 hb1
          go_wp2_with (first
            | (at_builtin; refine wpList_append_eq rfl _ _ 23 rfl _ _ _ w1 rfl rfl run1 ?_)
            | (at_builtin; refine wpList_append_eq rfl _ _ 23 rfl _ _ _ w3 rfl rfl run2 ?_))
          go_roundw
          case rel => exact ⟨i + 1, hin, by go_num, HSm', HR2.out⟩
          case measure => simp [intOf]; omega
      · have hin' : i = n := by omega
        subst hin'
        have ht : sg.take i = sg := List.take_of_length_le (by rw [← HN.out]; omega)
        rw [ht] at hR HSm
        have hlen40 : sg.length = i := HN.out.symm
        have hpar : ∃ e2 m2, parseP (tabsL 2 sg) = ([], e2, m2) ∧ ((i = 0 ∧ e2 = 0) ∨ (i ≠ 0 ∧ e2 = 2 ∧ m2 = 2)) := by
          by_cases h0 : sg = []
          · refine ⟨0, 0, ?_, .inl ⟨by rw [← hlen40, h0]; rfl, rfl⟩⟩
            rw [h0]; rfl
          · exact ⟨2, 2, by rw [parseP_right (by rw [alone_law 2 sg h0]; show (2 : Int) ≠ 15; decide)]; exact alone_law 2 sg h0, .inr ⟨by rw [← hlen40]; exact fun h => h0 (List.eq_nil_of_length_eq_zero h), rfl, rfl⟩⟩
        obtain ⟨e2, m2, hp2, hcase⟩ := hpar
        have hrd1 : ReadsL wr wr.heap.size (.slice q1 (i + 1) r1) (zl :: tabsL 2 sg) := In.readsL (E := 47) hR (by simp)
        have hrd2 : ReadsL wr wr.heap.size (.slice q2 i r2) (tabsL 2 sg) := In.readsL (E := 47) hR (by simp)
        have H1 := HP _ _ wr hrd1 (by rw [List.length_cons, tabs_len]; omega) (fun x hx => by
          rcases List.mem_cons.1 hx with rfl | hx
          · exact Nat.le_trans HZ.out (by omega)
          · exact Nat.le_trans (HSm.out _ (tabs_mem _ _ _ hx)) (by omega))
        rw [HLaw.out] at H1
        have HH1 := Lib.hid H1
        have H2 : Hid (∀ W, Below wr.heap.size wr W → Calls Tryd.prog 12 #[.slice q2 i r2] W (ParsePost ([], e2, m2) W)) := fun W hW => by
          rw [← hp2]
          exact HP _ _ W (hrd2.below hW hW.size) (by rw [tabs_len]; omega) (fun x hx => Nat.le_trans (HSm.out _ (tabs_mem _ _ _ hx)) (by omega))
        have HBr := Lib.hid hR.back
        clear H1 hrd1 hrd2 hR hp2 HLaw HS HZ HSm
        go_wp2_with fail
        refine HH1.out.mono ?_
        rintro e w4 ⟨o4, c4, rfl, hr4, hb4⟩
        go_wp2_with fail
        refine (H2.out w4 hb4).mono ?_
        rintro e w5 ⟨o5, c5, rfl, _, hb5⟩
        have hb45 := hb4.trans (hb5.mono hb4.size)
        have HB5 := Lib.hid (HBr.out.trans (hb45.mono HBr.out.size))
        obtain ⟨o', c', hv, hnn⟩ := hr4.below hb5 hb5.size
        cases hv
        obtain ⟨b, f, rv, rfl, hbl, hcl, x, hrr⟩ := hnn 0 _ rfl
        obtain ⟨ro, rc, rfl, _⟩ := id hrr
        rw [List.length_map, hlen40] at hrr
        have HSS : Hid (Calls Tryd.prog 21 #[.slice ro i rc, .slice o i c] w5 fun e w' => e = .returned (.bool true) ∧ Below w5.heap.size w5 w') :=
          samesT _ _ sg w5 hrr (HR.out.below HB5.out HB5.out.size) (by omega)
        have x5 : w5.cell? ⟨b, f + 5, none⟩ = some (.string s0) := by
          have := x 5 (by omega)
          rw [Nat.zero_mul, Nat.zero_add] at this
          rw [this]
          show some (Value.string (txt s0.data.toList)) = _
          rw [txt_toList]
        have x7 : w5.cell? ⟨b, f + 7, none⟩ = some (.string ⟨#[120]⟩) := x 7 (by omega)
        have x9 : w5.cell? ⟨b, f + 9, none⟩ = some (.slice ro i rc) := by
          have := x 9 (by omega)
          rw [Nat.zero_mul, Nat.zero_add] at this
          rw [this]
          show some (Value.slice ro (sg.map txt).length rc) = _
          rw [List.length_map, hlen40]
        have hcl1 : 1 ≤ c4 := hcl
        clear HH1 H2 HBr hr4 hb4 hb5 hb45 hnn x hrr hcl
        simp only
        rcases hcase with ⟨rfl, rfl⟩ | ⟨hi0, rfl, rfl⟩
        · go_wp2_with (go_at_call 21; refine HSS.out.mono ?_; rintro e w6 ⟨rfl, hb6⟩)
          go_ret
          exact ⟨rfl, HB5.out.trans (hb6.mono HB5.out.size)⟩
        · have t0 : ((i : Int) == 0) = false := by simp; omega
          go_wp2_with (go_at_call 21; refine HSS.out.mono ?_; rintro e w6 ⟨rfl, hb6⟩)
          go_ret
          exact ⟨rfl, HB5.out.trans (hb6.mono HB5.out.size)⟩
end Go.Proofs.YtldddecaeloohaaDoor
