/-
  What the document's own Cut answers, for every text of at most a million bytes, and every row of signs. No condition.
-/
import Derived.Test.YtldddecaeloohaaDoorPO
import Derived.Test.YtldddecaeloohaaDoorEJoin
namespace Go.Proofs.YtldddecaeloohaaDoor
open Go.RowKit Go.Shelf
attribute [local go_sem] Oper.semAt_some

def Cut3Post (k : Cut3) (w : World) (e : Ending) (w' : World) : Prop := e = .returned (.tuple #[.string (txt k.1), .string (txt k.2.1), .string (txt k.2.2)]) ∧ Below w.heap.size w w'
def signB (l x : BS) : Bool := decide (x ≠ []) && x.isPrefixOf l
/-- What the loop over the places keeps. -/
def CutAt (sg : List BS) (l : BS) (i : Nat) : Prop :=
  cutOf sg l = (l.take i ++ (cutIdx sg ((outsL [] l).drop i) (l.drop i)).1, (cutIdx sg ((outsL [] l).drop i) (l.drop i)).2.1, (cutIdx sg ((outsL [] l).drop i) (l.drop i)).2.2)
theorem CutAt.start (sg : List BS) (l : BS) : CutAt sg l 0 := by
  unfold CutAt cutOf cutW
  simp
theorem CutAt.step {sg : List BS} {l : BS} {i : Nat} {b : Bool} (h : CutAt sg l i) (hi : i < l.length) (hb : (outsL [] l)[i]? = some b) (hn : b = false ∨ signAt sg (l.drop i) = none) : CutAt sg l (i + 1) := by
  have e1 : l.drop i = l[i] :: l.drop (i + 1) := List.drop_eq_getElem_cons hi
  have e2 : (outsL [] l).drop i = b :: (outsL [] l).drop (i + 1) := by
    obtain ⟨hl, hv⟩ := List.getElem?_eq_some_iff.1 hb
    rw [List.drop_eq_getElem_cons hl, hv]
  have e3 : cutIdx sg ((outsL [] l).drop i) (l.drop i) = Cut3.put l[i] (cutIdx sg ((outsL [] l).drop (i + 1)) (l.drop (i + 1))) := by
    rw [e1] at hn
    rw [e1, e2]
    cases b with
    | false => rfl
    | true =>
      rcases hn with hn | hn
      · cases hn
      · show (match signAt sg (l[i] :: l.drop (i + 1)) with | some x => _ | none => _) = _
        rw [hn]
  unfold CutAt at h ⊢
  rw [h, e3]
  have e4 : ∀ K : BS, l.take (i + 1) ++ K = l.take i ++ l[i] :: K := fun K => by rw [List.take_succ_eq_append_getElem hi, List.append_assoc]; rfl
  rw [e4]; rfl
theorem CutAt.hit {sg : List BS} {l x : BS} {i : Nat} (h : CutAt sg l i) (hi : i < l.length) (hb : (outsL [] l)[i]? = some true) (hx : signAt sg (l.drop i) = some x) : cutOf sg l = (l.take i, x, l.drop (i + x.length)) := by
  have e1 : l.drop i = l[i] :: l.drop (i + 1) := List.drop_eq_getElem_cons hi
  have e2 : (outsL [] l).drop i = true :: (outsL [] l).drop (i + 1) := by
    obtain ⟨hl, hv⟩ := List.getElem?_eq_some_iff.1 hb
    rw [List.drop_eq_getElem_cons hl, hv]
  have e3 : cutIdx sg ((outsL [] l).drop i) (l.drop i) = ([], x, (l.drop i).drop x.length) := by
    rw [e1] at hx ⊢
    rw [e2]
    show (match signAt sg (l[i] :: l.drop (i + 1)) with | some x => _ | none => _) = _
    rw [hx]
  unfold CutAt at h
  rw [h, e3, List.append_nil, List.drop_drop]
theorem CutAt.done {sg : List BS} {l : BS} {i : Nat} (h : CutAt sg l i) (hi : l.length ≤ i) : cutOf sg l = (l, [], []) := by
  unfold CutAt at h
  rw [h, List.drop_eq_nil_of_le hi, List.take_of_length_le hi]
  have : cutIdx sg ((outsL [] l).drop i) [] = ([], [], []) := by unfold cutIdx; rfl
  rw [this, List.append_nil]
theorem sign_none {sg : List BS} {l : BS} (h : ∀ x ∈ sg, signB l x = false) : signAt sg l = none := by
  unfold signAt
  rw [List.find?_eq_none]
  intro x hx hp
  have := h x hx
  unfold signB at this
  rw [this] at hp
  cases hp
theorem sign_first {sg : List BS} {l x : BS} {k : Nat} (hk : sg[k]? = some x) (h : ∀ y ∈ sg.take k, signB l y = false) (hx : signB l x = true) : signAt sg l = some x := by
  unfold signAt
  have e : sg = sg.take k ++ x :: sg.drop (k + 1) := by
    obtain ⟨hl, hv⟩ := List.getElem?_eq_some_iff.1 hk
    conv => lhs; rw [← List.take_append_drop k sg, List.drop_eq_getElem_cons hl, hv]
  rw [e, List.find?_append, List.find?_eq_none.2 (fun y hy hp => by
    have := h y hy
    unfold signB at this
    rw [this] at hp
    cases hp)]
  have hx' : (decide (x ≠ []) && x.isPrefixOf l) = true := hx
  rw [List.find?_cons_of_pos (p := fun x : BS => decide (x ≠ []) && x.isPrefixOf l) hx']; rfl
/-- Does a sign begin at i? As the tests ask. -/
theorem sign_ways (s : ByteArray) (i : Nat) (x : BS) (hi : i ≤ s.size) :
    (signB (s.data.toList.drop i) x = false ∧ x.length = 0) ∨ (signB (s.data.toList.drop i) x = false ∧ 0 < x.length ∧ ¬ i + x.length ≤ s.size) ∨
    (0 < x.length ∧ i + x.length ≤ s.size ∧ ((s.extract i (i + x.length)).toList == (txt x).toList) = signB (s.data.toList.drop i) x) := by
  by_cases h0 : x = []
  · exact .inl ⟨by unfold signB; rw [h0]; rfl, by rw [h0]; rfl⟩
  · have hp : 0 < x.length := List.length_pos_iff.2 h0
    by_cases hf : i + x.length ≤ s.size
    · refine .inr (.inr ⟨hp, hf, ?_⟩)
      unfold signB
      rw [decide_eq_true h0, Bool.true_and, txt_toL, Lib.toList_data, Lib.extract_data]
      have e : i + x.length - i = x.length := by omega
      rw [e]
      by_cases hx : x <+: s.data.toList.drop i
      · have h2 := List.prefix_iff_eq_take.1 hx
        rw [List.isPrefixOf_iff_prefix.2 hx, ← h2]; simp
      · have h2 : ¬ x = (s.data.toList.drop i).take x.length := fun e => hx (List.prefix_iff_eq_take.2 e)
        have h3 : x.isPrefixOf (s.data.toList.drop i) = false := by
          cases hb : x.isPrefixOf (s.data.toList.drop i) with
          | false => rfl
          | true => exact absurd (List.isPrefixOf_iff_prefix.1 hb) hx
        rw [h3]
        simpa using fun e => h2 e.symm
    · refine .inr (.inl ⟨?_, hp, hf⟩)
      unfold signB
      rw [decide_eq_true h0, Bool.true_and]
      cases hb : x.isPrefixOf (s.data.toList.drop i) with
      | false => rfl
      | true =>
        have := (List.isPrefixOf_iff_prefix.1 hb).length_le
        rw [List.length_drop, size_list] at this
        omega

set_option maxRecDepth 100000 in
set_option maxHeartbeats 8000000 in
theorem cut9_any (v : Value) (sg : List BS) (s : ByteArray) (w : World) (hr : ReadsO w w.heap.size v (sg.map txt)) (hsg : sg.length ≤ 1000) (hsl : ∀ x ∈ sg, x.length ≤ 1000000) (hs : s.size ≤ 1000000) :
    Calls Tryd.prog 20 #[.string s, v] w (Cut3Post (cutOf sg s.data.toList) w) := by
  obtain ⟨o, c, rfl, hx⟩ := hr
  rw [List.length_map] at hx ⊢
  obtain ⟨n, hn⟩ : ∃ n, n = sg.length := ⟨_, rfl⟩
  rw [← hn] at hx hsg ⊢
  have HN := Lib.hid hn
  have HX : Hid (∀ k x, sg[k]? = some x → ∃ b f, o = some ⟨b, f, none⟩ ∧ n ≤ c ∧ ∀ W, Below w.heap.size w W → W.cell? ⟨b, f + k, none⟩ = some (.string (txt x))) := fun k x hk => by
    obtain ⟨b, f, h1, h2, h3, h4⟩ := hx k (txt x) (by rw [List.getElem?_map, hk]; rfl)
    exact ⟨b, f, h1, h3, fun W hb => (hb.cell (p := ⟨b, f + k, none⟩) h2).trans h4⟩
  have HL := Lib.hid hsl
  clear hx hn hsl
  go_enter Tryd.func20, Tryd.ntmps20
  go_wp2_with fail
  refine (outside9_any s hs w).mono ?_
  rintro e w1 ⟨rfl, ⟨cs, hcs, hcb⟩, hb⟩
  have HO : Hid (∀ W, Below w1.heap.size w1 W → ∀ i b, (outsL [] s.data.toList)[i]? = some b → W.cell? ⟨w.heap.size, i, none⟩ = some (.bool b)) := fun W hW i b hi => by
    have h1 := (Array.getElem?_eq_some_iff.1 hcs).1
    rw [Lib.cell_of_heap ((hW.block _ h1).trans hcs)]
    exact hcb i b hi
  have HB := Lib.hid hb
  clear hcs hcb hb
  go_wp2
  go_loopw [8] (fun iv wr => ∃ i : Nat, i ≤ s.size ∧ iv = .int .i64 i ∧ CutAt sg s.data.toList i ∧ Below w1.heap.size w1 wr) (fun iv _ => s.size - (intOf iv).toNat)
  case atStart => exact ⟨0, Nat.zero_le _, rfl, CutAt.start _ _, Below.refl _ _⟩
  case round =>
    obtain ⟨i, hi, rfl, hC, hbr⟩ := hrel
    have HC := Lib.hid hC
    have HBr := Lib.hid hbr
    by_cases hlt : i < s.size
    · have hil : i < s.data.toList.length := by rw [size_list]; exact hlt
      obtain ⟨bo, hbo⟩ : ∃ bo, (outsL [] s.data.toList)[i]? = some bo := ⟨_, List.getElem?_eq_getElem (by rw [outs_len]; exact hil)⟩
      have hcell := HO.out _ hbr i bo hbo
      cases bo with
      | false =>
        have HN2 := Lib.hid (hC.step hil hbo (.inl rfl))
        clear hC hbr hbo hil HO HX HL
        go_wp2
        go_roundw
        case rel => exact ⟨i + 1, hlt, by go_num, HN2.out, HBr.out⟩
        case measure => simp [intOf]; omega
      | true =>
        have HN2 : Hid (signAt sg (s.data.toList.drop i) = none → CutAt sg s.data.toList (i + 1)) := fun h => hC.step hil hbo (.inr h)
        have HH : Hid (∀ x, signAt sg (s.data.toList.drop i) = some x → cutOf sg s.data.toList = (s.data.toList.take i, x, s.data.toList.drop (i + x.length))) := fun x h => hC.hit hil hbo h
        clear hC hbr hbo hil HO HC
        go_wp2
        clear hcell
        go_loopw [9] (fun kv wi => ∃ k : Nat, k ≤ n ∧ kv = .int .i64 k ∧ (∀ x ∈ sg.take k, signB (s.data.toList.drop i) x = false) ∧ Below w1.heap.size w1 wi) (fun kv _ => n - (intOf kv).toNat)
        case atStart => exact ⟨0, Nat.zero_le _, rfl, by simp, HBr.out⟩
        case round =>
          obtain ⟨k, hk, rfl, hno, hbi⟩ := hrel
          have HNo := Lib.hid hno
          have HBi := Lib.hid hbi
          by_cases hkn : k < n
          · obtain ⟨x, hxk⟩ : ∃ x, sg[k]? = some x := ⟨sg[k]'(by rw [← HN.out]; exact hkn), List.getElem?_eq_getElem _⟩
            obtain ⟨b, f, rfl, hnc, hcx⟩ := HX.out k x hxk
            have hcell := hcx _ (HB.out.trans (hbi.mono HB.out.size))
            have hxl : x.length ≤ 1000000 := HL.out x (List.mem_of_getElem? hxk)
            have HNx : Hid (signB (s.data.toList.drop i) x = false → ∀ y ∈ sg.take (k + 1), signB (s.data.toList.drop i) y = false) := fun hf y hy => by
              rw [List.take_add_one, hxk] at hy
              rcases List.mem_append.1 hy with hy | hy
              · exact HNo.out y hy
              · simp at hy; rw [hy]; exact hf
            have HHx : Hid (signB (s.data.toList.drop i) x = true → cutOf sg s.data.toList = (s.data.toList.take i, x, s.data.toList.drop (i + x.length))) := fun ht => HH.out x (sign_first hxk HNo.out ht)
            have hw := sign_ways s i x hi
            clear hno hbi HH HN2 HX HL hcx hxk
            rcases hw with ⟨hf, h0⟩ | ⟨hf, hp, hnf⟩ | ⟨hp, hfit, heq⟩
            · have HF := Lib.hid (HNx.out hf)
              have d0 : decide ((0 : Int) < (x.length : Int)) = false := decide_eq_false (by omega)
              have g0 : ¬ 0 < x.length := by omega
              clear hf h0 HNx HHx
              go_wp2
              go_quiet (fail)
              have hb9 := drewN_below w1.heap.size wr nq
              have HB9 := Lib.hid (HBi.out.trans hb9)
              clear hb9 hcell HBi
              generalize wr.drewN nq = wz at HB9 ⊢
              go_wp2
              go_roundw
              case rel => exact ⟨k + 1, hkn, by go_num, HF.out, HB9.out⟩
              case measure => simp [intOf]; omega
            · have HF := Lib.hid (HNx.out hf)
              have d1 : decide ((i : Int) + (x.length : Int) ≤ (s.size : Int)) = false := decide_eq_false (by omega)
              have d0 : decide ((0 : Int) < (x.length : Int)) = true := decide_eq_true (by omega)
              clear hf HNx HHx
              go_wp2
              go_quiet (fail)
              have hb9 := drewN_below w1.heap.size wr nq
              have HB9 := Lib.hid (HBi.out.trans hb9)
              clear hb9 hcell HBi
              generalize wr.drewN nq = wz at HB9 ⊢
              go_wp2
              go_roundw
              case rel => exact ⟨k + 1, hkn, by go_num, HF.out, HB9.out⟩
              case measure => simp [intOf]; omega
            · have d1 : decide ((i : Int) + (x.length : Int) ≤ (s.size : Int)) = true := decide_eq_true (by omega)
              have d0 : decide ((0 : Int) < (x.length : Int)) = true := decide_eq_true (by omega)
              have c0 : (0 : Int) ≤ (i : Int) + (x.length : Int) := by omega
              have c1 : (i : Int) ≤ (i : Int) + (x.length : Int) := by omega
              have c2 : (i : Int) + (x.length : Int) ≤ (s.size : Int) := by omega
              cases hs2 : signB (s.data.toList.drop i) x with
              | false =>
                rw [hs2] at heq
                have HF := Lib.hid (HNx.out hs2)
                clear hs2 HNx HHx
                go_wp2
                go_quiet (fail)
                have hb9 := drewN_below w1.heap.size wr nq
                have HB9 := Lib.hid (HBi.out.trans hb9)
                clear hb9 hcell HBi
                generalize wr.drewN nq = wz at HB9 ⊢
                go_wp2
                go_roundw
                case rel => exact ⟨k + 1, hkn, by go_num, HF.out, HB9.out⟩
                case measure => simp [intOf]; omega
              | true =>
                rw [hs2] at heq
                have HE := Lib.hid (HHx.out hs2)
                clear hs2 HNx HHx
                go_wp2
                go_quiet (fail)
                have hb9 := drewN_below w1.heap.size wr nq
                have HB9 := Lib.hid (HBi.out.trans hb9)
                have hcell9 : (wr.drewN nq).cell? ⟨b, f + k, none⟩ = some (.string (txt x)) := hcell
                clear hb9 hcell HBi
                generalize wr.drewN nq = wz at HB9 hcell9 ⊢
                go_wp2
                go_quiet (fail)
                go_wp2
                go_ret3
                refine ⟨?_, HB.out.trans ((HB9.out.trans (drewN_below _ _ _)).mono HB.out.size)⟩
                have e1 : txt (s.data.toList.take i) = s.extract 0 i := by rw [extract_txt]; simp
                have e2 : txt (s.data.toList.drop (i + x.length)) = s.extract (i + x.length) s.size := by rw [extract_txt, take_rest]
                rw [HE.out]
                show _ = Ending.returned (.tuple #[.string (txt (s.data.toList.take i)), .string (txt x), .string (txt (s.data.toList.drop (i + x.length)))])
                rw [e1, e2]
                rfl
          · have HE := Lib.hid (HN2.out (sign_none (fun x hx => HNo.out x (by rw [List.take_of_length_le (by rw [← HN.out]; omega)]; exact hx))))
            clear hno hbi HH HN2 HX HL
            go_wp2
            go_roundw
            case rel => exact ⟨i + 1, hlt, by go_num, HE.out, HBi.out⟩
            case measure => simp [intOf]; omega
    · have HE := Lib.hid (hC.done (by rw [size_list]; omega))
      clear hC hbr HO HX HL HC
      go_wp2
      go_ret3
      refine ⟨?_, HB.out.trans (HBr.out.mono HB.out.size)⟩
      rw [HE.out, txt_toList]; rfl
end Go.Proofs.YtldddecaeloohaaDoor
