/-
  What the program's opening, begun and Cut answer, for every text and every row of signs. No condition but the machine's bounds.
-/
import Derived.Test.YtldddecaeloohaaDoorQM
import Derived.Test.YtldddecaeloohaaDoorQLib
import Derived.Test.YtldddecaeloohaaDoorPC
namespace Go.Proofs.YtldddecaeloohaaDoor
open Go.RowKit Go.Shelf
attribute [local go_sem] Oper.semAt_some

/-! ### what is open: a row of bytes in a block of the call's own, whatever that block's type -/
/-- The slice v reads as the cells l, out of a block behind b; there is room for cap of them. -/
def Stk (b : Nat) (v : Value) (l : List Value) (W : World) : Prop :=
  ∃ g cap cur T, v = .slice (some ⟨g, 0, none⟩) l.length cap ∧ b ≤ g ∧ W.heap[g]? = some (.cells cur T (0, 0)) ∧ l.length ≤ cap ∧ cap ≤ maxLen ∧ cap ≤ cur.size ∧ cur.toList.take l.length = l
theorem run_append_in {P : Program} (w : World) (t ty e T : TypeId) (i : TypeInfo) (ht : P.underlying t = some (.slice e)) (hi : P.info? e = some i)
    (g sLen sCap : Nat) (cur : Array Value) (hg : w.heap[g]? = some (.cells cur T (0, 0)))
    (a : Addr) (m c : Nat) (news : List Value) (hl : news.length = m * i.size) (hnews : ∀ j u, news[j]? = some u → w.cell? (a.add j) = some u) (h1 : ∀ u ∈ news, u.oneCell' = true)
    (hroom : sLen + m ≤ sCap) (hfit : sLen * i.size + news.length ≤ cur.size) :
    (Builtin.append_ #[t, t] ty #[.slice (some ⟨g, 0, none⟩) sLen sCap, .slice (some a) m c]).run P w =
      .ok (.slice (some ⟨g, 0, none⟩) (sLen + m) sCap) (w.setRow g (cur.toList.take (sLen * i.size) ++ news ++ cur.toList.drop (sLen * i.size + news.length)).toArray) := by
  have hf := run_firstCells_some (P := P) w i.size m a m c news hl hnews
  have hst := run_storeCells_at P g (sLen * i.size) T news 0 cur w hg (by simpa using hfit) h1
  simp only [Nat.add_zero] at hst
  simp [Builtin.append_, run_underlying ht, sizeOf, typeInfo, hi, Builtin.lenOf, hroom, hf, Addr.add_lit, hst]
section
variable {b : Nat} {v x : Value} {l : List Value} {W W' : World}
theorem Stk.kept (h : Stk b v l W) (hb : Below W.heap.size W W') : Stk b v l W' := by
  obtain ⟨g, cap, cur, T, h1, h2, h3, h4⟩ := h
  exact ⟨g, cap, cur, T, h1, h2, (hb.block _ (Array.getElem?_eq_some_iff.1 h3).1).trans h3, h4⟩
theorem Stk.top (h : Stk b v (l ++ [x]) W) : ∃ g cap, v = .slice (some ⟨g, 0, none⟩) (l.length + 1) cap ∧ l.length + 1 ≤ cap ∧ W.cell? ⟨g, l.length, none⟩ = some x := by
  obtain ⟨g, cap, cur, T, h1, _, h3, h4, _, _, h7⟩ := h
  rw [List.length_append] at h1 h4 h7
  refine ⟨g, cap, h1, h4, ?_⟩
  rw [Lib.cell_of_heap h3]
  have e : (cur.toList.take (l.length + 1))[l.length]? = some x := by
    have : l.length + [x].length = l.length + 1 := rfl
    rw [← this, h7]; simp
  rw [List.getElem?_take_of_lt (by omega)] at e
  simpa using e
theorem Stk.pop {g cap : Nat} (h : Stk b (.slice (some ⟨g, 0, none⟩) (l.length + 1) cap) (l ++ [x]) W) : Stk b (.slice (some ⟨g, 0, none⟩) l.length cap) l W := by
  obtain ⟨g', cap', cur, T, h1, h2, h3, h4, h5, h6, h7⟩ := h
  simp only [Value.slice.injEq, Option.some.injEq, Addr.mk.injEq, and_true] at h1
  obtain ⟨rfl, _, rfl⟩ := h1
  rw [List.length_append] at h4 h7
  refine ⟨g, cap, cur, T, rfl, h2, h3, by omega, h5, h6, ?_⟩
  have := congrArg (List.take l.length) h7
  rw [List.take_take, List.take_left] at this
  rwa [Nat.min_eq_left (by omega)] at this
theorem Stk.push {t e : TypeId} {i : TypeInfo} {z : Value} {P : Program} (ht : P.underlying t = some (.slice e)) (hi : P.info? e = some i) (hz : i.zero = some z) (hs : i.size = 1) (hby : i.bytes ≤ 256) (hzs : z.cells.size = 1)
    (h : Stk b v l W) (hx : x.oneCell' = true) (hl : l.length < 1073741824) (ty E : TypeId) :
    ∃ v' W', (Builtin.append_ #[t, t] ty #[v, .slice (some ⟨W.heap.size, 0, none⟩) 1 1]).run P (W.alloc (.cells #[x] E)) = .ok v' W' ∧ Stk b v' (l ++ [x]) W' ∧ Turned (fun n => v.ownBlock = some n) W W' := by
  obtain ⟨g, cap, cur, T, rfl, h2, h3, h4, h5, h6, h7⟩ := h
  have hgl : g < W.heap.size := (Array.getElem?_eq_some_iff.1 h3).1
  have h3' : (W.alloc (.cells #[x] E)).heap[g]? = some (.cells cur T (0, 0)) := (Below.heap_alloc _ _ _ hgl).trans h3
  have hnew := World.alloc_heap_new W (.cells #[x] E)
  have hnews : ∀ j u, ([x] : List Value)[j]? = some u → (W.alloc (.cells #[x] E)).cell? ((⟨W.heap.size, 0, none⟩ : Addr).add j) = some u := fun j u hu => by
    cases j with
    | zero => cases hu; rw [Addr.add_lit, Lib.cell_of_heap hnew]; rfl
    | succ j => simp at hu
  have h1 : ∀ u ∈ ([x] : List Value), u.oneCell' = true := fun u hu => by rw [List.mem_singleton.1 hu]; exact hx
  have hT1 : Turned (fun n => (Value.slice (some ⟨g, 0, none⟩) l.length cap).ownBlock = some n) W (W.alloc (.cells #[x] E)) := Turned.alloc _ W _
  by_cases hroom : l.length + 1 ≤ cap
  · have hr := run_append_in (P := P) (W.alloc (.cells #[x] E)) t ty e T i ht hi g l.length cap cur h3' ⟨W.heap.size, 0, none⟩ 1 1 [x] (by rw [hs]; rfl) hnews h1 hroom (by rw [hs]; simp; omega)
    rw [hs, Nat.mul_one] at hr
    refine ⟨_, _, hr, ⟨g, cap, _, T, by rw [List.length_append]; rfl, h2, setRow_heap _ g cur _ T _ h3', by rw [List.length_append]; exact hroom, h5, ?_, ?_⟩, hT1.trans ?_⟩
    · simp only [List.size_toArray, List.length_append, List.length_take, List.length_drop, Array.length_toList, List.length_cons, List.length_nil]
      omega
    · rw [h7]
      have : (l ++ [x]).length = (l ++ [x]).length := rfl
      exact List.take_left
    · exact ⟨rfl, rfl, rfl, by simp, fun k _ hk => setRow_other _ g k _ (fun e => hk (by simp [Value.ownBlock, e]))⟩
  · have holds : ∀ j u, l[j]? = some u → (W.alloc (.cells #[x] E)).cell? ((⟨g, 0, none⟩ : Addr).add j) = some u := fun j u hu => by
      have hj : j < l.length := (List.getElem?_eq_some_iff.1 hu).1
      rw [Addr.add_lit, Nat.zero_add, Lib.cell_of_heap h3']
      rw [← h7, List.getElem?_take_of_lt hj] at hu
      simpa using hu
    have hcap : l.length = cap := by omega
    have hr := run_append_grow (P := P) (W.alloc (.cells #[x] E)) t ty e i z ht hi hz ⟨g, 0, none⟩ l.length cap l (by rw [hs, Nat.mul_one]) holds ⟨W.heap.size, 0, none⟩ 1 1 [x] (by rw [hs]; rfl) hnews (by omega) (by omega)
      (growslice_fits (by omega) (by
        calc (l.length + 1) * i.bytes ≤ 1073741824 * 256 := Nat.mul_le_mul (by omega) hby
          _ ≤ 140737488355328 := by omega))
    have hge := grownCap_ge (W.alloc (.cells #[x] E)) (l.length + 1) cap e
    refine ⟨_, _, hr, ⟨(W.alloc (.cells #[x] E)).heap.size, _, _, e, by rw [List.length_append]; rfl, ?_, World.alloc_heap_new (W.alloc (.cells #[x] E)).drew _, by rw [List.length_append]; exact hge, grownCap_le_maxLen _ _ _ _ (by unfold maxLen; omega), ?_, ?_⟩, hT1.trans ?_⟩
    · rw [World.size_alloc]
      have : b ≤ g := h2
      omega
    · simp only [Array.size_append, List.size_toArray, size_zeroCells, hzs, List.length_cons, List.length_nil]
      omega
    · simp only [Array.toList_append, List.append_assoc]
      rw [← List.append_assoc]
      exact List.take_left
    · exact ⟨rfl, rfl, rfl, by simp, fun k hk _ => heap_alloc_old (W.alloc (.cells #[x] E)).drew _ hk⟩
end

/-! ### what a place begins with -/
def closeN (l : BS) : Int := match opens l with | some q => (q.toNat : Int) | none => 0
set_option maxHeartbeats 1000000 in
theorem opening_any (s : ByteArray) (w : World) : Calls Tryd.prog 35 #[.string s] w fun e w' => e = .returned (.int .u8 (closeN s.data.toList)) ∧ w' = w := by
  have h1 := Lib.hid (fun w => hasPrefix_any s ⟨#[36, 40]⟩ w)
  have h2 := Lib.hid (fun w => hasPrefix_any s ⟨#[36, 123]⟩ w)
  rcases opens_by s.data.toList with ⟨e1, e3⟩ | ⟨e1, e2, e3⟩ | ⟨e1, e2, e3⟩
  · have HV : Hid (closeN s.data.toList = 41) := by show _ = _; unfold closeN; rw [e3]; rfl
    have H1 : Hid (∀ w, Calls Tryd.prog 42 #[.string s, .string ⟨#[36, 40]⟩] w fun e w' => e = .returned (.bool true) ∧ w' = w) := fun w => by rw [← e1]; exact h1.out w
    clear e1 e3 h1 h2
    go_enter Tryd.func35, Tryd.ntmps35
    go_wp2_with (go_at_call 42; refine (H1.out _).mono ?_; rintro e w' ⟨rfl, rfl⟩)
    go_ret
    exact ⟨by rw [HV.out]; rfl, rfl⟩
  · have HV : Hid (closeN s.data.toList = 125) := by show _ = _; unfold closeN; rw [e3]; rfl
    have H1 : Hid (∀ w, Calls Tryd.prog 42 #[.string s, .string ⟨#[36, 40]⟩] w fun e w' => e = .returned (.bool false) ∧ w' = w) := fun w => by rw [← e1]; exact h1.out w
    have H2 : Hid (∀ w, Calls Tryd.prog 42 #[.string s, .string ⟨#[36, 123]⟩] w fun e w' => e = .returned (.bool true) ∧ w' = w) := fun w => by rw [← e2]; exact h2.out w
    clear e1 e2 e3 h1 h2
    go_enter Tryd.func35, Tryd.ntmps35
    go_wp2_with fail
    refine (H1.out _).mono ?_
    rintro e w' ⟨rfl, rfl⟩
    go_wp2_with fail
    refine (H2.out _).mono ?_
    rintro e w' ⟨rfl, rfl⟩
    go_wp2
    go_ret
    exact ⟨by rw [HV.out]; rfl, rfl⟩
  · have HV : Hid (closeN s.data.toList = 0) := by show _ = _; unfold closeN; rw [e3]
    have H1 : Hid (∀ w, Calls Tryd.prog 42 #[.string s, .string ⟨#[36, 40]⟩] w fun e w' => e = .returned (.bool false) ∧ w' = w) := fun w => by rw [← e1]; exact h1.out w
    have H2 : Hid (∀ w, Calls Tryd.prog 42 #[.string s, .string ⟨#[36, 123]⟩] w fun e w' => e = .returned (.bool false) ∧ w' = w) := fun w => by rw [← e2]; exact h2.out w
    clear e1 e2 e3 h1 h2
    go_enter Tryd.func35, Tryd.ntmps35
    go_wp2_with fail
    refine (H1.out _).mono ?_
    rintro e w' ⟨rfl, rfl⟩
    go_wp2_with fail
    refine (H2.out _).mono ?_
    rintro e w' ⟨rfl, rfl⟩
    go_wp2
    go_ret
    exact ⟨by rw [HV.out]; rfl, rfl⟩
set_option maxRecDepth 100000 in
set_option maxHeartbeats 4000000 in
theorem begun_any (v : Value) (sg : List BS) (s : ByteArray) (w : World) (hr : ReadsO w w.heap.size v (sg.map txt)) (hsg : sg.length ≤ 1000) :
    Calls Tryd.prog 36 #[.string s, v] w fun e w' => e = .returned (.string (txt ((signAt sg s.data.toList).getD []))) ∧ w' = w := by
  obtain ⟨o, c, rfl, hx⟩ := hr
  rw [List.length_map] at hx ⊢
  obtain ⟨n, hn⟩ : ∃ n, n = sg.length := ⟨_, rfl⟩
  rw [← hn] at hx hsg ⊢
  have HN := Lib.hid hn
  have HX : Hid (∀ k x, sg[k]? = some x → ∃ b f, o = some ⟨b, f, none⟩ ∧ n ≤ c ∧ w.cell? ⟨b, f + k, none⟩ = some (.string (txt x))) := fun k x hk => by
    obtain ⟨b, f, h1, h2, h3, h4⟩ := hx k (txt x) (by rw [List.getElem?_map, hk]; rfl)
    exact ⟨b, f, h1, h3, h4⟩
  have HP := Lib.hid (fun (x : BS) w => hasPrefix_any s (txt x) w)
  clear hx hn
  go_enter Tryd.func36, Tryd.ntmps36
  go_wp2
  go_loop [9] (fun kv => ∃ k : Nat, k ≤ n ∧ kv = .int .i64 k ∧ ∀ x ∈ sg.take k, signB s.data.toList x = false) (fun kv => n - (intOf kv).toNat)
  case atStart => exact ⟨0, Nat.zero_le _, rfl, by simp⟩
  case round =>
    obtain ⟨k, hk, rfl, hno⟩ := hrel
    have HNo := Lib.hid hno
    clear hno
    by_cases hkn : k < n
    · obtain ⟨x, hxk⟩ : ∃ x, sg[k]? = some x := ⟨sg[k]'(by rw [← HN.out]; exact hkn), List.getElem?_eq_getElem _⟩
      obtain ⟨b, f, rfl, hnc, hcell⟩ := HX.out k x hxk
      have HNx : Hid (signB s.data.toList x = false → ∀ y ∈ sg.take (k + 1), signB s.data.toList y = false) := fun hf y hy => by
        rw [List.take_add_one, hxk] at hy
        rcases List.mem_append.1 hy with hy | hy
        · exact HNo.out y hy
        · simp at hy; rw [hy]; exact hf
      have HHx : Hid (signB s.data.toList x = true → signAt sg s.data.toList = some x) := fun ht => sign_first hxk HNo.out ht
      clear hxk HNo
      by_cases h0 : x = []
      · subst h0
        have HF := Lib.hid (HNx.out (by unfold signB; rfl))
        have hcell' : w.cell? ⟨b, f + k, none⟩ = some (.string ⟨#[]⟩) := hcell
        clear HNx HHx hcell
        go_wp2
        go_round
        case rel => exact ⟨k + 1, hkn, by go_num, HF.out⟩
        case measure => simp [intOf]; omega
      · have h1 : (txt x).toList.isEmpty = false := by rw [txt_toL]; simpa using h0
        have HPx : Hid (∀ w, Calls Tryd.prog 42 #[.string s, .string (txt x)] w fun e w' => e = .returned (.bool (signB s.data.toList x)) ∧ w' = w) := fun w => by
          have := HP.out x w
          rw [txt_data] at this
          unfold signB
          rw [decide_eq_true h0, Bool.true_and]
          exact this
        clear h0
        cases hb : signB s.data.toList x with
        | false =>
          rw [hb] at HPx
          have HF := Lib.hid (HNx.out hb)
          clear HNx HHx hb
          go_wp2_with (go_at_call 42; refine (HPx.out _).mono ?_; rintro e w' ⟨rfl, rfl⟩)
          go_round
          case rel => exact ⟨k + 1, hkn, by go_num, HF.out⟩
          case measure => simp [intOf]; omega
        | true =>
          rw [hb] at HPx
          have HF := Lib.hid (HHx.out hb)
          clear HNx HHx hb
          go_wp2_with (go_at_call 42; refine (HPx.out _).mono ?_; rintro e w' ⟨rfl, rfl⟩)
          go_ret
          exact ⟨by rw [HF.out]; rfl, rfl⟩
    · have HS : Hid (signAt sg s.data.toList = none) := sign_none fun x hx => HNo.out x (by rw [List.take_of_length_le (by rw [← HN.out]; omega)]; exact hx)
      clear HX
      go_wp2
      go_ret
      exact ⟨by rw [HS.out]; rfl, rfl⟩
end Go.Proofs.YtldddecaeloohaaDoor
