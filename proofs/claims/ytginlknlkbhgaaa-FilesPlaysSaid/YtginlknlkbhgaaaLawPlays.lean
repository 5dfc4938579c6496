/-
  After any changes, syncs and crashes all errors, files, bytes and times are as the document's own tree has them; a copy shares nothing: for every room, every row of acts. No condition.
-/
import Derived.Test.YtginlknlkbhgaaaRowP
import Derived.Test.YtginlknlkbhgaaaFActs
import Derived.Test.YtginlknlkbhgaaaFLaws
namespace Go.Proofs.Ytginlknlkbhgaaa
open Go.ChangeShapes Go.WideShapes Go.ChangeAt Go.RowKit
open Go.Shelf Go.Maps

set_option maxRecDepth 100000 in
set_option maxHeartbeats 8000000 in
theorem filesPlays_walk (room : Int) (hroom : -9223372036854775808 ≤ room ∧ room ≤ 9223372036854775807) (v : Value) (al : List ActV) (hn : al.length ≤ maxLen) (hw : ∀ a ∈ al, ActW a) (w : World) (hr : ActsO w w.heap.size v al) :
    Calls Try.prog 3 #[.int .i64 room, v] w (LawPost w) := by
  obtain ⟨o, c, rfl, hx'⟩ := id hr
  clear hx'
  have HSh := Lib.hid (shown_at w)
  have HSm := Lib.hid (small_at hr hn hw)
  have hb0 : Below w.heap.size w w := Below.refl _ _
  cases hsm : smallB al with
  | false =>
    rw [hsm] at HSm
    clear hr hn hw hsm
    go_enter Try.func3, Try.ntmps3
    go_wp2_with (first
      | (go_at_call 11; refine (HSh.out _ hb0).mono ?_; rintro e w2 ⟨rfl, hb2⟩)
      | (go_at_call 12; refine (HSm.out _ hb2).mono ?_; rintro e w3 ⟨rfl, rfl⟩))
    go_ret
    exact ⟨rfl, hb2⟩
  | true =>
    rw [hsm] at HSm
    obtain ⟨hlen, hok⟩ := small_ok hsm hw
    by_cases hrm : 1 ≤ room ∧ room ≤ 1073741824
    · have HBg := Lib.hid (begun_at room hrm.1 hrm.2 w)
      have HX : Hid (ActsO w w.heap.size (.slice o al.length c) al) := hr
      have HO := Lib.hid hok
      clear hr hn hw hsm hok hroom
      go_enter Try.func3, Try.ntmps3
      go_wp2_with (first
        | (go_at_call 11; refine (HSh.out _ hb0).mono ?_; rintro e w2 ⟨rfl, hb2⟩)
        | (go_at_call 12; refine (HSm.out _ hb2).mono ?_; rintro e w3 ⟨rfl, rfl⟩)
        | (go_at_call 13; refine (HBg.out _ hb2).mono ?_; rintro e w1 ⟨bt, bm, rfl, h0⟩))
      clear HSh HSm HBg
      go_loopw [9] (fun i wr => ∃ (k : Nat) (S : St), k ≤ al.length ∧ i = .int .i64 k ∧ Good room k S ∧ Box w w1 bt bm room [(false, bt, S), (true, bm, S)] wr) (fun i _ => al.length - (intOf i).toNat)
      case atStart => exact ⟨0, _, Nat.zero_le _, rfl, Good.new hrm.1 hrm.2, h0⟩
      case round =>
        obtain ⟨k, S, hk, rfl, hg, hcr⟩ := hrel
        by_cases hlt : k < al.length
        · obtain ⟨b, f, rfl, hkc, hcell⟩ := acts_at HX.out (List.getElem?_eq_getElem hlt)
          have ha := HO.out _ (List.getElem_mem hlt)
          generalize al[k] = a at *
          have hi5 : (k : Int) < (al.length : Int) := by omega
          have hi6 : (0 : Int) ≤ (k : Int) := by omega
          have hk60 : k < 268435456 := by omega
          have HC : Hid (∀ l W, Box w w1 bt bm room l W → ActCells W b f k a) := fun l W h => hcell W (boxBack h)
          have HB : Hid (∀ l W, Box w w1 bt bm room l W → W.cell? ⟨w1.heap.size, 0, none⟩ = some (.pointer (some ⟨bt, 0, none⟩)) ∧ W.cell? ⟨w1.heap.size, 1, none⟩ = some (.pointer (some ⟨bm, 0, none⟩))) := fun l W h => boxAt h
          have H1 : Hid (∀ l W, Box w w1 bt bm room ((false, bt, S) :: l) W → Calls Try.prog 14 #[.pointer (some ⟨bt, 0, none⟩)] W fun r w' => ∃ c, r = .returned (.pointer (some ⟨c, 0, none⟩)) ∧ Box w w1 bt bm room ((false, c, S) :: (false, bt, S) :: l) w') := fun l W h => h.clone hg hk60
          have H2 : Hid (∀ b' l W, Box w w1 bt bm room ((false, b', S) :: l) W → Calls Try.prog 15 #[.pointer (some ⟨b', 0, none⟩), .string ⟨#[111, 119, 110]⟩, .string a.text] W fun r w' => (∃ q, r = .returned q) ∧ ∃ S1, Good room (k + 1) S1 ∧ Box w w1 bt bm room ((false, b', S1) :: l) w') := fun b' l W h =>
            (h.write hg hk60 ⟨#[111, 119, 110]⟩ a.text (by decide) (by have := ha.text1; omega)).mono fun _ _ q => ⟨⟨_, q.1⟩, _, hg.opW _ _, q.2⟩
          have H3 : Hid (∀ b' l W S1, Good room (k + 1) S1 → Box w w1 bt bm room ((false, b', S1) :: l) W → Calls Try.prog 16 #[.pointer (some ⟨b', 0, none⟩), .int .i64 a.n, .int .i64 a.m] W fun r w' => r = .returned (.tuple #[]) ∧ Box w w1 bt bm room l w') := fun b' l W S1 hg1 h =>
            (h.crash hg1 a.n a.m (by have := ha.m; omega)).mono fun _ _ q => ⟨q.1, q.2.tail⟩
          obtain ⟨S', hS'⟩ : ∃ S', S' = actS room S a := ⟨_, rfl⟩
          have hg' : Good room (k + 1) S' := by rw [hS']; exact hg.act a
          have H4 : Hid (∀ W, Box w w1 bt bm room [(false, bt, S), (true, bm, S)] W → Calls Try.prog 17 #[.agg #[.pointer (some ⟨bt, 0, none⟩), .pointer (some ⟨bm, 0, none⟩)], .agg #[.int .i64 a.op, .int .i64 a.n, .int .i64 a.m, .string a.path, .string a.text]] W fun r w' => r = .returned (.bool true) ∧ Box w w1 bt bm room [(false, bt, S'), (true, bm, S')] w') := fun W h => by
            rw [hS']; exact h.does hg hk60 a ha
          have H5 : Hid (∀ W, Box w w1 bt bm room [(false, bt, S'), (true, bm, S')] W → Calls Try.prog 18 #[.agg #[.pointer (some ⟨bt, 0, none⟩), .pointer (some ⟨bm, 0, none⟩)]] W fun r w' => r = .returned (.bool true) ∧ Box w w1 bt bm room [(false, bt, S'), (true, bm, S')] w') := fun W h => h.alike hg' (by omega)
          obtain ⟨tx, htx⟩ : ∃ tx, tx = txt (opRead S' a.path.data.toList).1 := ⟨_, rfl⟩
          obtain ⟨er, her⟩ : ∃ er, er = (opRead S' a.path.data.toList).2 := ⟨_, rfl⟩
          have H6 : Hid (∀ W, Box w w1 bt bm room [(false, bt, S'), (true, bm, S')] W → Calls Try.prog 19 #[.pointer (some ⟨bt, 0, none⟩), .string a.path] W fun r w' => r = .returned (.tuple #[.string tx, .int .i64 er]) ∧ Box w w1 bt bm room [(false, bt, S'), (true, bm, S')] w') := fun W h => by
            rw [htx, her]; exact h.read a.path (by have := ha.path1; omega)
          have H7 : Hid (∀ W, Box w w1 bt bm room [(false, bt, S'), (true, bm, S')] W → Calls Try.prog 20 #[.pointer (some ⟨bm, 0, none⟩), .string a.path] W fun r w' => r = .returned (.tuple #[.string tx, .int .i64 er]) ∧ Box w w1 bt bm room [(false, bt, S'), (true, bm, S')] w') := fun W h => by
            rw [htx, her]; exact (h.tail.readR hg' a.path).mono fun _ _ q => ⟨q.1, by rw [← q.2]; exact h⟩
          clear ha hg hS' hcell htx her HX HO
          obtain ⟨op, an, am, ap, at'⟩ := a
          simp only [ActCells] at HC H2 H3 H4 H6 H7
          obtain ⟨b0, b1⟩ := HB.out _ _ hcr
          obtain ⟨c0, c1, c2, c3, c4⟩ := HC.out _ _ hcr
          go_wp2_with (first
            | (go_at_call 14; refine (H1.out _ _ hcr).mono ?_; rintro e w4 ⟨cb, rfl, h4⟩; obtain ⟨k0, k1, k2, k3, k4⟩ := HC.out _ _ h4)
            | (go_at_call 15; refine (H2.out _ _ _ h4).mono ?_; rintro e w5 ⟨⟨q, rfl⟩, S1, hg1, h5⟩; have h5d := Box.below h5 (below_drew (Below.refl _ _))))
          go_region_held3 (fun W => W.cell? ⟨b, f + k * 5 + 1, none⟩ = some (.int .i64 an) ∧ W.cell? ⟨b, f + k * 5 + 2, none⟩ = some (.int .i64 am))
            (first | exact (fun h => ⟨(HC.out _ _ h).2.1, (HC.out _ _ h).2.2.1⟩) (show Box w w1 bt bm room _ _ by assumption))
            (first | (go_at_call 16; refine (H3.out _ _ _ _ hg1 h5d).mono ?_; rintro e w6 ⟨rfl, h6⟩; have h6d := Box.below h6 (below_drew (Below.refl _ _))))
          go_wp2
          go_region_held3 (fun W => W.cell? ⟨w1.heap.size, 0, none⟩ = some (.pointer (some ⟨bt, 0, none⟩)) ∧ W.cell? ⟨w1.heap.size, 1, none⟩ = some (.pointer (some ⟨bm, 0, none⟩)) ∧ W.cell? ⟨b, f + k * 5, none⟩ = some (.int .i64 op) ∧ W.cell? ⟨b, f + k * 5 + 1, none⟩ = some (.int .i64 an) ∧ W.cell? ⟨b, f + k * 5 + 2, none⟩ = some (.int .i64 am) ∧ W.cell? ⟨b, f + k * 5 + 3, none⟩ = some (.string ap) ∧ W.cell? ⟨b, f + k * 5 + 4, none⟩ = some (.string at'))
            (first | exact (fun h => ⟨(HB.out _ _ h).1, (HB.out _ _ h).2, HC.out _ _ h⟩) (show Box w w1 bt bm room _ _ by assumption))
            (first | (go_at_call 17; refine (H4.out _ (by assumption)).mono ?_; rintro e w7 ⟨rfl, h7⟩; obtain ⟨m0, m1⟩ := HB.out _ _ h7))
          go_wp2_with (first | (go_at_call 18; refine (H5.out _ h7).mono ?_; rintro e w8 ⟨rfl, h8⟩; have h8d := Box.below h8 (below_drew (Below.refl _ _))))
          go_region_held3 (fun W => W.cell? ⟨w1.heap.size, 0, none⟩ = some (.pointer (some ⟨bt, 0, none⟩)) ∧ W.cell? ⟨b, f + k * 5 + 3, none⟩ = some (.string ap))
            (first | exact (fun h => ⟨(HB.out _ _ h).1, (HC.out _ _ h).2.2.2.1⟩) (show Box w w1 bt bm room _ _ by assumption))
            (first | (go_at_call 19; refine (H6.out _ (by assumption)).mono ?_; rintro e w9 ⟨rfl, h9⟩; have h9d := Box.below h9 (below_drew (Below.refl _ _))))
          go_wp2
          go_region_held3 (fun W => W.cell? ⟨w1.heap.size, 1, none⟩ = some (.pointer (some ⟨bm, 0, none⟩)) ∧ W.cell? ⟨b, f + k * 5 + 3, none⟩ = some (.string ap))
            (first | exact (fun h => ⟨(HB.out _ _ h).2, (HC.out _ _ h).2.2.2.1⟩) (show Box w w1 bt bm room _ _ by assumption))
            (first | (go_at_call 20; refine (H7.out _ (by assumption)).mono ?_; rintro e w10 ⟨rfl, h10⟩))
          go_wp2
          go_roundw
          case rel => exact ⟨k + 1, S', hlt, by go_num, hg', h10⟩
          case measure => simp [intOf]; omega
        · go_wp2
          go_ret
          exact ⟨rfl, boxBack hcr⟩
    · have HBg := Lib.hid (begun_err room (by omega))
      clear hr hn hw hsm hok
      go_enter Try.func3, Try.ntmps3
      by_cases h1 : room < 1
      all_goals (try have h2 : 1073741824 < room := by omega)
      all_goals (
        clear hrm
        go_wp2_with (first
          | (go_at_call 11; refine (HSh.out _ hb0).mono ?_; rintro e w2 ⟨rfl, hb2⟩)
          | (go_at_call 12; refine (HSm.out _ hb2).mono ?_; rintro e w3 ⟨rfl, rfl⟩)
          | (go_at_call 13; refine (HBg.out _).mono ?_; rintro e w1 ⟨rfl, hb3⟩))
        go_ret
        exact ⟨rfl, (hb2.trans (hb3.mono hb2.size)).alloc (by have := hb2.size; have := hb3.size; omega) _⟩)

set_option maxRecDepth 100000 in
theorem filesPlays_lifted (os : Os) (started : os.Started) (H : Type) (enc : TypeId × Value → H) :
    ReturnsInHanded {} Try.checked os 3 .any (Rows.filesPlaysSpec.pre6 enc Try.prog Try.f3 Rows.filesPlaysRow.domain false) (Rows.filesPlaysSpec.post enc Try.prog Try.f3 false true false false) := by
  refine returnsInHanded_of_change (C := Try.checked) own_knob started (by kernel_rfl) Try.func3
    (ChangeSpec.witness6 (enc := enc) (C := Try.checked) false ⟨#[], #[.int .i64 0, .slice none 0 0], []⟩ 8 (by kernel_rfl) (by kernel_rfl) (by kernel_rfl) (by kernel_rfl)) ?_
  intro W base args ds gs before hval0 hW _ _
  have hval : ∀ (j : Nat) t v, Try.f3.params[j]? = some t → args[j]? = some v → Value.okWide Try.prog W .any base t v := hval0
  have hW' := hW
  obtain ⟨p, q, hA0, hV, rfl, hfz, hnd⟩ := hW
  have hA : DataW.TrodAll enc Try.prog W 0 (fun _ => true) true Try.f3.params.toList args.toList ds p := hA0
  rw [Try.params3] at hA hval
  obtain ⟨v0, v1, d0, d1, p0, p1, rfl, rfl, rfl, h0, h1⟩ := trodAll_two hA
  obtain ⟨rfl, rfl⟩ := trodVars_none hV
  clear hA0 hval0
  simp only [List.append_nil] at hW'
  have hlt := fun x hx => hW'.lt x hx
  obtain ⟨i0, rfl, rfl, rfl, ws0⟩ := open_int Try.underlying3 (hval 0 3 v0 rfl rfl) h0
  obtain ⟨⟨al1, hn1, hw1, hr1⟩, hback1⟩ := open_acts (hval 1 22 v1 rfl rfl) h1 (fun x hx => hlt x (by simp [hx]))
  refine (filesPlays_walk i0 (bounds_i64 ws0) v1 al1 hn1 hw1 W hr1).mono fun e W' h => ⟨.bool true, h.1, ?_⟩
  exact post_true_at hW' rfl (by kernel_rfl) Try.underlying4 rfl (trodAll_mk2 (shut_int Try.underlying3 ws0) (hback1 W' h.2)) h.2

theorem filesPlays_holds : Rows.FilesPlaysSaid :=
  OpenClaim.holds_of_wide 3 Try.f3 rfl rfl rfl rfl rfl rfl rfl ⟨rfl, rfl, rfl, rfl, rfl⟩ rfl rfl rfl rfl rfl (by kernel_rfl) Try.func3 (by kernel_rfl)
    (of_decide_eq_true (by kernel_rfl)) (by unfold Func.isWrapper; first | (rw [if_pos (by decide +kernel)]; kernel_rfl) | (rw [if_neg (by decide +kernel)]; exact ⟨rfl, rfl⟩))
    (fun os started H enc _ => filesPlays_lifted os started H enc)

end Go.Proofs.Ytginlknlkbhgaaa
