/-
  What the document's own function answers of a call, and of the functions of words. No condition but sizes.
  The word that a reference begins with; the document's own function, whichever. No condition but sizes.
  What the document's own refer answers; its text, at all levels; its Expand. No condition but sizes.
-/
import Derived.Test.YtbngoodjgijmgaaGreatDoorZW
namespace Go.Proofs.YtbngoodjgijmgaaGreatDoor
open Go.RowKit Go.Shelf
attribute [local go_sem] Oper.semAt_some

theorem put_env {k : Nat} : ∀ (l : List BT) (v : EnvT) (j : Nat), SrtT v → (∀ x ∈ v, x.1.length ≤ 4000 ∧ x.2.1.length ≤ 4000) → (∀ x ∈ l, x.length ≤ 4000) → j + l.length ≤ 10 → v.length + l.length + 10 * k ≤ 1000 → EnvR (putT v j l) k
  | [], v, j, hs, hv, _, _, hl => by
    show EnvR v k
    exact ⟨hs, by simpa using hl, hv⟩
  | y :: l, v, j, hs, hv, hy, hj, hl => by
    unfold putT
    simp only [List.length_cons] at hj hl
    have h1 := (set_len v (decOf j, y, true)).1
    refine put_env l _ (j + 1) (set_srt hs) (fun x hx => ?_) (fun x hx => hy x (by simp [hx])) (by omega) (by omega)
    rcases set_mem hx with rfl | hx
    · refine ⟨?_, hy y (by simp)⟩
      show (decOf j).length ≤ 4000
      unfold decOf
      rw [if_pos (by omega)]; simp
    · exact hv x hx
theorem dig_cut (i : Nat) (h : i < 10) : (⟨#[48, 49, 50, 51, 52, 53, 54, 55, 56, 57]⟩ : ByteArray).extract i (i + 1) = txt (decOf i) := by
  rw [digit_text i h]
  unfold decOf
  rw [if_pos h]
/-- What the loop that puts the arguments among the variables keeps. -/
structure PutAt (env0 : EnvT) (l : List BT) (i : Nat) (w8 W : World) : Prop where
  back : Later w8 W
  box : ∃ o m c, W.heap[w8.heap.size]? = some (.cells #[.slice o m c] 28 (0, 0)) ∧ EnvS W (fun b => b ≠ w8.heap.size) (.slice o m c) (putT env0 0 (l.take i))
theorem PutAt.step {env0 : EnvT} {l : List BT} {i : Nat} {w8 W W' : World} (h : PutAt env0 l i w8 W) {x : BT} (hx : l[i]? = some x) {o2 : Option Addr} {m2 c2 : Nat} (hE : EnvS W' (fun b => W.heap.size ≤ b) (.slice o2 m2 c2) (setT (putT env0 0 (l.take i)) (decOf i, x, true))) (hb : Later W W') :
    PutAt env0 l (i + 1) w8 (W'.setCell ⟨w8.heap.size, 0, none⟩ (.slice o2 m2 c2)) := by
  obtain ⟨o, m, c, h1, _⟩ := h.box
  have hlt := (Array.getElem?_eq_some_iff.1 h1).1
  have hi : i < l.length := (List.getElem?_eq_some_iff.1 hx).1
  refine ⟨(h.back.on hb).setCell (p := ⟨w8.heap.size, 0, none⟩) (Nat.le_refl _) _, o2, m2, c2, set_one ((hb.block _ hlt).trans h1) _, ?_⟩
  have e : putT env0 0 (l.take (i + 1)) = setT (putT env0 0 (l.take i)) (decOf i, x, true) := by
    rw [List.take_add_one, hx]
    show putT env0 0 (l.take i ++ [x]) = _
    rw [put_snoc, List.length_take, Nat.min_eq_left (by omega), Nat.zero_add]
  rw [e]
  exact (hE.turned (X := fun b => b = w8.heap.size) (Turned.setCell (X := fun b => b = w8.heap.size) _ ⟨w8.heap.size, 0, none⟩ _ rfl) (fun b hb h => by omega)).wider (fun b _ hb => by omega)
theorem put_ne : ∀ (l : List BT) (v : EnvT) (j : Nat), 0 < l.length → putT v j l ≠ []
  | [], _, _, h => absurd h (Nat.lt_irrefl _)
  | [x], v, j, _ => by
    show putT v j [x] ≠ []
    have : putT v j [x] = setT v (decOf j, x, true) := by unfold putT; unfold putT; rfl
    rw [this]; exact set_ne _ _
  | x :: y :: l, v, j, _ => by
    conv => lhs; unfold putT
    exact put_ne (y :: l) _ _ (by simp)
set_option maxRecDepth 100000 in
set_option maxHeartbeats 8000000 in
theorem rfun_rest (k : Nat) (hX : RText k) (xb n d : Nat) (o : Option Addr) (m c : Nat) (env : EnvT) (ao : Option Addr) (an ac : Nat) (args : List BT) (nm : BT) (w : World) (hd : d + k = 20) (h : AtR xb n w (.slice o m c) env) (hE : EnvR env k) (hl1 : env.length + 10 + 10 * k ≤ 1000)
    (han : an = args.length) (hs : ∀ x ∈ args, x.length ≤ 4000) (hr : CellsW w ao ac args) (hni : nm ≠ nIf) (hne : nm ≠ nForeach) (h1 : 1 ≤ an) (h9 : an ≤ 9) :
    Calls Tryz.prog 55 #[.pointer (some ⟨xb, 0, none⟩), .agg #[.slice o m c], .string (txt nm), .slice ao an ac, .int .i64 (d : Int)] w (PostR xb (funB (textE k) env nm args n) w) := by
  have hx := h.steps.lt
  have HX : Hid (RTextAt k xb d o m c env w) := hX.at hd h hE
  have HP : Hid (∀ W, Steps xb (boxR w o m c) W → Steps xb w W ∧ W.cell? ⟨w.heap.size, 0, none⟩ = some (.slice o m c)) := fun W hT => boxed hx hT
  have HAr : Hid (∀ W, Steps xb (boxR w o m c) W → ∀ k x, args[k]? = some x → ∃ b f, ao = some ⟨b, f, none⟩ ∧ an ≤ ac ∧ W.cell? ⟨b, f + k, none⟩ = some (.string (txt x))) := fun W hT => (words_stay hr h.steps han).out W (boxed_wide hx hT)
  have HS0 : Hid (RAt (boxR w o m c) xb n ∧ n ≤ 2000) := ⟨h.steps.on (Later.self w _), h.few⟩
  have HT0 : Hid (Steps xb (boxR w o m c) (boxR w o m c)) := Turned.refl _ _
  have HSt : Hid (∀ v s n m t, textE k v s n = .ok (m, t) → t.length ≤ 4000) := fun v s n m t e => short_textE k v s n m t e
  obtain ⟨a0, rest, hargs⟩ : ∃ a0 rest, args = a0 :: rest := by
    rcases args with _ | ⟨a0, rest⟩
    · simp at han; omega
    · exact ⟨_, _, rfl⟩
  have q1 : ((txt nm).toList == [105, 102]) = false := by rw [name_eq]; exact decide_eq_false hni
  have q2 : ((txt nm).toList == [102, 111, 114, 101, 97, 99, 104]) = false := by rw [name_eq]; exact decide_eq_false hne
  have hlt0 : (0 : Int) < (an : Int) := by omega
  have hlt0' : 0 < an := by omega
  obtain ⟨r, hr0⟩ : ∃ r, r = funB (textE k) env nm args n := ⟨_, rfl⟩
  rw [← hr0]
  obtain ⟨G, hG⟩ : ∃ G : Nat → List BT → R, G = fun m l => if nm = nCallW then textE k (putT env 0 (l.set 0 (trimOf (l.getD 0 [])))) (textOf (getT env (trimOf (l.getD 0 [])))) m else callR m (callT nm l) := ⟨_, rfl⟩
  have HEG : Hid (r = Rb (textsR (textE k env) args n) G) := by
    show _ = _
    rw [hr0, hG]
    unfold funB
    rw [if_neg hni, if_neg hne]
    by_cases hc : nm = nCallW
    · rw [if_pos hc]
      simp only [hc, if_true]; rfl
    · rw [if_neg hc]
      simp only [hc, if_false]
  have HE0 : Hid (r = Rb (Rb (textE k env a0 n) fun m t => Rb (textsR (textE k env) rest m) fun k l => .ok (k, t :: l)) G) := by
    show _ = _
    rw [HEG.out, hargs, texts_head]
  have HGd := Lib.hid hG
  have HAn := Lib.hid han
  have HArg := Lib.hid hargs
  have HEnv : Hid (∀ W, Steps xb w W → EnvS W (fun b => b ≠ xb) (.slice o m c) env) := fun W hT => h.env.turned hT (fun _ h1 h2 => h1 h2)
  have HEr := Lib.hid hE
  have HXf : Hid (∀ (env' : EnvT) (t : BT) (n2 : Nat) (W : World) (o' : Option Addr) (m' c' : Nat), EnvR env' k → t.length ≤ 4000 → n2 ≤ 2000 → RAt W xb n2 → EnvS W (fun b => b ≠ xb) (.slice o' m' c') env' → Calls Tryz.prog 24 #[.pointer (some ⟨xb, 0, none⟩), .agg #[.slice o' m' c'], .string (txt t), .int .i64 (d : Int)] W (PostR xb (textE k env' t n2) W)) := fun env' t n2 W o' m' c' hE' ht hn2 hs2 hEn => hX xb n2 d o' m' c' env' t W hd ⟨hs2, hn2, hEn⟩ hE' ht
  have hel : env.length + 10 + 10 * k ≤ 1000 := hl1
  have HL0 : Hid (∀ t1 n1, textE k env a0 n = .ok (n1, t1) → textsR (textE k env) args n = Rb (textsR (textE k env) (args.drop 1) n1) fun k l => .ok (k, [t1] ++ l)) := fun t1 n1 h => by
    have := texts_from (f := textE k env) (ws := args) (acc := []) (i := 0) (n := n) (m := n) (x := a0) (n2 := n1) (t := t1) (by rw [List.drop_zero]; exact (Rb_self _).symm) (by rw [hargs]; rfl) h
    exact this
  have ha0 : args[0]? = some a0 := by rw [hargs]; rfl
  have hsA : a0 ∈ args := by rw [hargs]; simp
  clear hr0 hG hr h hE hX hd hl1 hni hne han hargs
  obtain ⟨b, f, rfl, hnc, y1⟩ := HAr.out _ HT0.out 0 a0 ha0
  rw [Nat.add_zero] at y1
  have HA0 : Hid (∀ W, Steps xb (boxR w o m c) W → W.cell? ⟨b, f, none⟩ = some (.string (txt a0))) := fun W hT => by
    obtain ⟨b', f', e, _, hc⟩ := HAr.out W hT 0 a0 ha0
    cases e; exact hc
  obtain ⟨_, y0⟩ := HP.out _ HT0.out
  have hs0 : a0.length ≤ 4000 := hs _ hsA
  have HSz := Lib.hid hs
  clear hs
  go_enter Tryz.func55, Tryz.ntmps55
  go_wp2_with fail
  go_region_held3 (fun w' => w'.cell? ⟨w.heap.size, 0, none⟩ = some (.slice o m c) ∧ w'.cell? ⟨b, f, none⟩ = some (.string (txt a0)))
    (first | (go_keep; done))
    (first | (go_at_call 24; (first | refine (HX.out n a0 _ ((HP.out _ HT0.out).1.trans (Turned.drew _ _)) HS0.out.1 HS0.out.2 hs0).mono ?_ | refine (HX.out n a0 _ (HP.out _ HT0.out).1 HS0.out.1 HS0.out.2 hs0).mono ?_); rintro e w1 ⟨u1, c1, rfl, hT1, hR1⟩; have HT1 : Hid (Steps xb (boxR w o m c) w1) := (by first | exact (Turned.drew _ _).trans hT1 | exact hT1); have HR1 := Lib.hid hR1; clear hT1 hR1; obtain ⟨_, k0⟩ := HP.out _ HT1.out; have k1 := HA0.out _ HT1.out))
  by_cases hc1 : c1 = 0
  case neg =>
    obtain ⟨hb1, rfl⟩ := HR1.out.bad hc1
    have e1 : (c1 != 0) = true := by rw [bne_iff_ne]; exact hc1
    have HF : Hid (r = .error c1) := by
      show _ = _
      rw [HE0.out, hb1]; rfl
    have HC := Lib.hid hc1
    clear hb1 hc1
    go_wp2_with fail
    go_ret2
    exact post_err HF.out HC.out (HP.out _ HT1.out).1
  subst hc1
  obtain ⟨n1, t1, hr1, hu1, hs1, hn1⟩ := HR1.out.good
  subst hu1
  have hl4 : t1.length ≤ 4000 := HSt.out _ _ _ _ _ hr1
  have HS1 : Hid (RAt w1 xb n1 ∧ n1 ≤ 2000) := ⟨hs1, hn1⟩
  have HE1 := Lib.hid hr1
  have HTr := Lib.hid (rtrim_told t1 (by omega))
  have HL1 := Lib.hid (HL0.out t1 n1 hr1)
  clear hr1 hs1 hn1 HR1 HE0 HE1 HL0 ha0 hsA
  have hA1 : EachAt xb w1.heap.size (textE k env) args n 1 n1 [t1] (some ⟨w1.heap.size, 0, none⟩) 1 w1 (w1.alloc (.cells #[.string (txt t1)] 9)) :=
    ⟨(Later.steps (Later.self w1 _) xb).wide, HS1.out.1.on (Later.self w1 _), HS1.out.2, ⟨rfl, .inr ⟨w1.heap.size, 1, _, rfl, Nat.le_refl _, World.alloc_heap_new w1 _, Nat.le_refl _, by unfold maxLen; omega, rfl, rfl⟩⟩, rfl, by simpa using hl4, HL1.out⟩
  have HA1 := Lib.hid hA1
  have HTw1 : Hid (Steps xb (boxR w o m c) w1) := HT1
  have hbsz : w.heap.size < w1.heap.size := by have := HT1.out.size; simp at this; omega
  have HW1 : Hid (∀ W, Wide xb w1.heap.size w1 W → W.cell? ⟨w.heap.size, 0, none⟩ = some (.slice o m c) ∧ ∀ k x, args[k]? = some x → W.cell? ⟨b, f + k, none⟩ = some (.string (txt x))) := fun W hW => by
    refine ⟨?_, fun k x hk => ?_⟩
    · have h5 := (HP.out _ HT1.out).2
      rw [← h5]
      unfold World.cell?
      rw [hW.block w.heap.size hbsz (by rintro (h | h) <;> omega)]
    · obtain ⟨b', f', e, _, hc⟩ := HAr.out _ HT1.out k x hk
      cases e
      rw [← hc]
      have hbx := rat_far HS1.out.1 hc
      have hbl : b < w1.heap.size := by
        unfold World.cell? at hc
        cases hg : w1.heap[b]? with
        | none => rw [hg] at hc; cases hc
        | some o => exact (Array.getElem?_eq_some_iff.1 hg).1
      unfold World.cell?
      rw [hW.block b hbl (by rintro (h | h); exact hbx h; omega)]
  clear hA1 HL1
  go_wp2_with fail
  go_loopw [14, 15] (fun ov iv wr => ∃ (i n2 : Nat) (acc : List BT) (oo : Option Addr) (oc : Nat), 1 ≤ i ∧ i ≤ an ∧ ov = .slice oo i oc ∧ iv = .int .i64 (i : Int) ∧ Hid (acc.head? = some t1) ∧ Hid (EachAt xb w1.heap.size (textE k env) args n i n2 acc oo oc w1 wr)) (fun _ iv _ => an - (intOf iv).toNat)
  case atStart => exact ⟨1, n1, [t1], _, 1, Nat.le_refl _, h1, rfl, rfl, rfl, HA1⟩
  case round =>
    obtain ⟨i, n2, acc, oo, oc, hi1, hi, rfl, rfl, HHd, HA⟩ := hrel
    clear HA1
    by_cases hlt : i < an
    · obtain ⟨x, hx1⟩ : ∃ x, args[i]? = some x := ⟨_, List.getElem?_eq_getElem (by rw [← HAn.out]; exact hlt)⟩
      have hil : (i : Int) < (an : Int) := by omega
      have hi0 : (0 : Int) ≤ (i : Int) := by omega
      have hxl := HSz.out x (List.mem_of_getElem? hx1)
      have hcx := (HW1.out wr HA.out.back).2 i x hx1
      have hbox := (HW1.out wr HA.out.back).1
      have HXk := Lib.hid hx1
      have HTr2 : Hid (Steps xb w wr) := (HP.out _ HT1.out).1.trans (HA.out.back.steps (Nat.le_refl _))
      have HSr : Hid (RAt wr xb n2 ∧ n2 ≤ 2000) := ⟨HA.out.steps, HA.out.few⟩
      clear hx1
      go_wp2_with fail
      go_region_held3 (fun w' => w'.cell? ⟨w.heap.size, 0, none⟩ = some (.slice o m c) ∧ w'.cell? ⟨b, f + i, none⟩ = some (.string (txt x)))
        (first | (go_keep; done))
        (first | (go_at_call 24; (first | refine (HX.out n2 x _ (HTr2.out.trans (Turned.drew _ _)) HSr.out.1 HSr.out.2 hxl).mono ?_ | refine (HX.out n2 x _ HTr2.out HSr.out.1 HSr.out.2 hxl).mono ?_); rintro e w2 ⟨u2, c2, rfl, hT2, hR2⟩; have HT2 : Hid (Steps xb wr w2) := (by first | exact (Turned.drew _ _).trans hT2 | exact hT2); have HR2 := Lib.hid hR2; clear hT2 hR2; have j0 := (HW1.out w2 (HA.out.back.trans HT2.out.wide)).1; have j1 := (HW1.out w2 (HA.out.back.trans HT2.out.wide)).2 i x HXk.out))
      have HW2 : Hid (Wide xb w1.heap.size w1 w2) := HA.out.back.trans HT2.out.wide
      by_cases hc2 : c2 = 0
      · subst hc2
        obtain ⟨n7, t7, hr7, hu7, hs7, hn7⟩ := HR2.out.good
        subst hu7
        have hsm7 := HSt.out _ _ _ _ _ hr7
        have hown : OwnT w2 w1.heap.size (.slice oo i oc) acc := HA.out.own.turned HT2.out (fun b hb h => by have := (HP.out _ HT1.out).1.size; omega)
        obtain ⟨o8, m8, c8, w8, hrun, hown8, hb8⟩ := run_append_told w1.heap.size (.slice oo i oc) acc t7 hown (by rw [HA.out.len]; omega) HW2.out.size 99
        have hm8 := hown8.len
        rw [List.length_append, HA.out.len] at hm8
        have hm9 : m8 = i + 1 := hm8
        subst hm9
        have HN : Hid (EachAt xb w1.heap.size (textE k env) args n (i + 1) n7 (acc ++ [t7]) o8 c8 w1 w8) := ⟨HW2.out.trans (below_wide hb8), (hs7.kept (below_wide (xb := xb + w1.heap.size + 1) hb8) (by have := (HP.out _ HT1.out).1.size; rintro (h | h) <;> omega)), hn7, hown8, by rw [List.length_append, HA.out.len]; rfl, fun y hy => by
          rcases List.mem_append.1 hy with hy | hy
          · exact HA.out.small y hy
          · rw [List.mem_singleton.1 hy]; exact hsm7, texts_from HA.out.law HXk.out hr7⟩
        have HHd2 : Hid ((acc ++ [t7]).head? = some t1) := by
          show _ = _
          have := HHd.out
          cases acc with
          | nil => cases this
          | cons y r => exact this
        clear hr7 hs7 hown hown8 hb8 hm8 HR2
        go_wp2_with (at_builtin; refine wpList_append_eq rfl _ _ 99 rfl _ _ _ w8 rfl rfl hrun ?_)
        go_roundw
        case rel => exact ⟨i + 1, n7, acc ++ [t7], o8, c8, by omega, hlt, rfl, by go_num, HHd2, HN⟩
        case measure => simp [intOf]; omega
      · obtain ⟨hr7, rfl⟩ := HR2.out.bad hc2
        have HF : Hid (r = .error c2) := by
          show _ = _
          rw [HEG.out, texts_fell HA.out.law HXk.out hr7]; rfl
        have e5 : (c2 != 0) = true := by rw [bne_iff_ne]; exact hc2
        have HC := Lib.hid hc2
        clear hr7 hc2 HR2
        go_wp2_with fail
        go_ret2
        exact post_err HF.out HC.out (HTr2.out.trans HT2.out)
    · obtain rfl : i = an := by omega
      have hil : ¬ (i : Int) < (i : Int) := by omega
      have hdn := texts_done HA.out.law (by rw [HAn.out]; exact Nat.le_refl _)
      have HE2 : Hid (r = G n2 acc) := by
        show _ = _
        rw [HEG.out, hdn, Rb_ok]
      have HTr2 : Hid (Steps xb w wr) := (HP.out _ HT1.out).1.trans (HA.out.back.steps (Nat.le_refl _))
      have HSr : Hid (RAt wr xb n2 ∧ n2 ≤ 2000) := ⟨HA.out.steps, HA.out.few⟩
      have HCl := Lib.hid HA.out.own.cells
      have HAl := Lib.hid HA.out.len
      have HSm := Lib.hid HA.out.small
      have hbox := (HW1.out wr HA.out.back).1
      clear hdn HEG HW1 HX HA
      by_cases hcall : nm = nCallW
      · have q3 : ((txt nm).toList == [99, 97, 108, 108]) = true := by rw [name_eq]; exact decide_eq_true hcall
        obtain ⟨ta, hta⟩ : ∃ ta, ta = trimOf t1 := ⟨_, rfl⟩
        rw [← hta] at HTr
        have htl : ta.length ≤ 4000 := by rw [hta]; have := trim_len t1; omega
        have hgd : acc.getD 0 [] = t1 := by
          have := HHd.out
          cases acc with
          | nil => cases this
          | cons y r => cases this; rfl
        have HE3 : Hid (r = textE k (putT env 0 (acc.set 0 ta)) (textOf (getT env ta)) n2) := by
          show _ = _
          rw [HE2.out, HGd.out]
          show (if nm = nCallW then _ else _) = _
          rw [if_pos hcall, hgd, hta]
        have hG0 := rget_any _ o m c env (txt ta) wr (HEnv.out wr HTr2.out) (by omega)
        rw [txt_data] at hG0
        have HGt : Hid (Calls Tryz.prog 16 #[.agg #[.slice o m c], .string (txt ta)] wr fun e w' => e = .returned (.tuple #[aggV ((getT env ta).getD ([], [], false)), .bool (getT env ta).isSome]) ∧ Later wr w') := hG0
        unfold aggV at HGt
        clear hG0 hta hgd hcall HE2 HGd
        rcases hg : getT env ta with _ | ⟨y1, y2, y3⟩
        · rw [hg] at HGt HE3
          simp only [Option.getD_none, Option.isSome_none] at HGt
          rw [txt_nil] at HGt
          have HF : Hid (r = .ok (n2, [])) := by
            show _ = _
            rw [HE3.out]
            show textE k _ [] n2 = _
            unfold textE textR
            rw [body_nil, Rb_ok]; exact fin_ok n2 (by simp)
          clear hg HE3
          go_wp2_with fail
          refine (HTr.out _).mono ?_
          rintro e _ ⟨rfl, rfl⟩
          go_wp2_with fail
          refine HGt.out.mono ?_
          rintro e w7 ⟨rfl, hb7⟩
          have HB7 := Lib.hid (hb7.put (.cells #[.string ⟨#[]⟩, .string ⟨#[]⟩, .bool false] 39))
          clear hb7 HGt
          go_wp2_with fail
          go_ret2
          exact post_ok (t := []) HF.out (HTr2.out.trans (Later.steps HB7.out xb)) (HSr.out.1.on HB7.out) HSr.out.2
        · have hyl := (HEr.out.2.2 _ (get_mem hg)).2
          simp only at hyl
          rw [hg] at HGt HE3
          simp only [Option.getD_some, Option.isSome_some] at HGt
          have HE4 : Hid (r = textE k (putT env 0 (acc.set 0 ta)) y2 n2) := HE3
          obtain ⟨l, hl⟩ : ∃ l, l = acc.set 0 ta := ⟨_, rfl⟩
          rw [← hl] at HE4
          have HLl : Hid (l.length = i) := by show _ = _; rw [hl, List.length_set]; exact HAl.out
          have HL0 : Hid (l.take 1 = [ta]) := by
            show _ = _
            rw [hl]
            have := HHd.out
            cases acc with
            | nil => cases this
            | cons y r => rfl
          have HLx : Hid (∀ j x, 1 ≤ j → l[j]? = some x → acc[j]? = some x) := fun j x hj hx => by
            rw [hl, List.getElem?_set] at hx
            rw [if_neg (by omega)] at hx
            exact hx
          have HLm : Hid (∀ x ∈ l, x.length ≤ 4000) := fun x hx => by
            rw [hl] at hx
            rcases List.mem_or_eq_of_mem_set hx with h | h
            · exact HSm.out x h
            · rw [h]; exact htl
          clear hg HE3 hl
          go_wp2_with fail
          refine (HTr.out _).mono ?_
          rintro e _ ⟨rfl, rfl⟩
          go_wp2_with fail
          refine HGt.out.mono ?_
          rintro e w7 ⟨rfl, hb7⟩
          have hb7' := hb7.put (.cells #[.string (txt y1), .string (txt y2), .bool y3] 39)
          have hwr : w.heap.size < wr.heap.size := by have := HTr2.out.size; unfold World.cell? at hbox; cases hgg : wr.heap[w.heap.size]? with
            | none => rw [hgg] at hbox; cases hbox
            | some o => exact (Array.getElem?_eq_some_iff.1 hgg).1
          have v7 := (hb7'.cell (p := ⟨w.heap.size, 0, none⟩) hwr).trans hbox
          have HV7 : Hid ((w7.alloc (.cells #[.string (txt y1), .string (txt y2), .bool y3] 39)).heap[w7.heap.size]? = some (.cells #[.string (txt y1), .string (txt y2), .bool y3] 39 (0, 0))) := World.alloc_heap_new w7 _
          have HT7 : Hid (Steps xb w (w7.alloc (.cells #[.string (txt y1), .string (txt y2), .bool y3] 39))) := HTr2.out.trans (Later.steps hb7' xb)
          have HB7 := Lib.hid hb7'
          have hSe := rset_told [48] ta (HEnv.out _ HT7.out) (by omega) HEr.out.1
          have HSe : Hid (Calls Tryz.prog 22 #[.agg #[.slice o m c], .agg #[.string ⟨#[48]⟩, .string (txt ta), .bool true]] (w7.alloc (.cells #[.string (txt y1), .string (txt y2), .bool y3] 39)) fun e w' => ∃ o2 m2 c2, e = .returned (.agg #[.slice o2 m2 c2]) ∧ EnvS w' (fun b => (w7.alloc (.cells #[.string (txt y1), .string (txt y2), .bool y3] 39)).heap.size ≤ b) (.slice o2 m2 c2) (setT env ([48], ta, true)) ∧ Later (w7.alloc (.cells #[.string (txt y1), .string (txt y2), .bool y3] 39)) w') := hSe
          clear hSe hb7 hb7' HGt hbox
          go_wp2_with fail
          refine HSe.out.mono ?_
          rintro e w8 ⟨o8, m8, c8, rfl, hE8, hb8⟩
          have HB8 : Hid (Later wr w8) := HB7.out.on hb8
          have HV8 : Hid (w8.heap[w7.heap.size]? = some (.cells #[.string (txt y1), .string (txt y2), .bool y3] 39 (0, 0))) := (hb8.block _ (by simp)).trans HV7.out
          have HC8 : Hid (CellsW w8 oo oc acc) := HCl.out.below HB8.out
          have hA0 : PutAt env l 1 w8 (w8.alloc (.cells #[.slice o8 m8 c8] 28)) := by
            refine ⟨Later.self w8 _, o8, m8, c8, World.alloc_heap_new w8 _, ?_⟩
            rw [HL0.out]
            show EnvS _ _ _ (putT env 0 [ta])
            have e0 : putT env 0 [ta] = setT env ([48], ta, true) := by
              have : putT env 0 [ta] = setT env (decOf 0, ta, true) := by unfold putT; unfold putT; rfl
              rw [this]
              have h0 : decOf 0 = [48] := by decide +kernel
              rw [h0]
            rw [e0]
            exact (hE8.wider (Q' := fun b => b ≠ w8.heap.size) (fun b hb _ => by omega)).below (Later.self w8 _)
          have HA0 := Lib.hid hA0
          clear hE8 hb8 HSe hA0 HV7 HB7 v7
          go_wp2_with fail
          go_loopw [22] (fun iv wx => ∃ (j : Nat), 1 ≤ j ∧ j ≤ i ∧ iv = .int .i64 (j : Int) ∧ Hid (PutAt env l j w8 wx)) (fun iv _ => i - (intOf iv).toNat)
          case atStart => exact ⟨1, Nat.le_refl _, hi1, rfl, HA0⟩
          case round =>
            obtain ⟨j, hj1, hj, rfl, HA⟩ := hrel
            clear HA0
            obtain ⟨ox, mx, cx, hbx, hEx⟩ := HA.out.box
            obtain ⟨x0, x1⟩ := one_cell hbx
            by_cases hjl : j < i
            · obtain ⟨x, hx1⟩ : ∃ x, l[j]? = some x := ⟨_, List.getElem?_eq_getElem (by rw [HLl.out]; exact hjl)⟩
              obtain ⟨b9, f9, rfl, _, hlc, hc9⟩ := (HC8.out.below HA.out.back) j x (HLx.out j x hj1 hx1)
              rw [HAl.out] at hlc
              have hjil : (j : Int) < (i : Int) := by omega
              have hj0 : (0 : Int) ≤ (j : Int) := by omega
              obtain ⟨ja, hja⟩ : ∃ ja : Nat, ja = j + 1 := ⟨_, rfl⟩
              have g1 : (j : Int) + 1 = (ja : Int) := by omega
              have g2 : IntKind.i64.wrap (ja : Int) = (ja : Int) := by rw [IntKind.wrap_i64]; omega
              have g3 : (j : Int) ≤ (ja : Int) := by omega
              have g4 : (ja : Int) ≤ 10 := by omega
              have g5 : (⟨#[48, 49, 50, 51, 52, 53, 54, 55, 56, 57]⟩ : ByteArray).extract j ja = txt (decOf j) := by rw [hja]; exact dig_cut j (by omega)
              have HJa := Lib.hid hja
              have hPE : EnvR (putT env 0 (l.take j)) 0 := put_env (l.take j) env 0 HEr.out.1 HEr.out.2.2 (fun y hy => HLm.out y (List.mem_of_mem_take hy)) (by rw [List.length_take, HLl.out]; omega) (by rw [List.length_take, HLl.out]; omega)
              have hS9 := rset_told (decOf j) x (W := wr.drew) (show EnvS wr.drew (fun b => b ≠ w8.heap.size) _ _ from hEx) (by have := hPE.2.1; omega) hPE.1
              have HS9 : Hid (Calls Tryz.prog 22 #[.agg #[.slice ox mx cx], .agg #[.string (txt (decOf j)), .string (txt x), .bool true]] wr.drew fun e w' => ∃ o2 m2 c2, e = .returned (.agg #[.slice o2 m2 c2]) ∧ EnvS w' (fun b => wr.heap.size ≤ b) (.slice o2 m2 c2) (setT (putT env 0 (l.take j)) (decOf j, x, true)) ∧ Later wr w') := hS9.mono fun e w' h => by
                obtain ⟨o2, m2, c2, e1, e2, e3⟩ := h
                exact ⟨o2, m2, c2, e1, e2, (show Later wr wr.drew from (Below.refl _ _).drew).trans e3⟩
              have HXk := Lib.hid hx1
              have HBx := Lib.hid hbx
              clear hEx hbx hx1 hPE hS9 hja
              go_wp2_with fail
              go_still_tail 10, (by kernel_rfl)
              change wpList _ _ _ _ _ wr.drew
              go_wp2_with fail
              refine HS9.out.mono ?_
              rintro e w9 ⟨o9, m9, c9', rfl, hE9, hb9⟩
              obtain ⟨z1, z2⟩ := one_cell ((hb9.block _ (Array.getElem?_eq_some_iff.1 HBx.out).1).trans HBx.out)
              have HN := Lib.hid (HA.out.step HXk.out hE9 hb9)
              clear hE9 hb9 HS9
              go_wp2_with fail
              generalize w9.setCell ⟨w8.heap.size, 0, none⟩ (.slice o9 m9 c9') = w10 at HN ⊢
              go_wp2_with fail
              go_roundw
              case rel => exact ⟨j + 1, by omega, hjl, by have := HJa.out; go_num, HN⟩
              case measure => have := HJa.out; simp [intOf]; omega
            · obtain rfl : j = i := by omega
              have hjil : ¬ (j : Int) < (j : Int) := by omega
              have hl9 : l.take j = l := List.take_of_length_le (by rw [HLl.out]; exact Nat.le_refl _)
              rw [hl9] at hEx
              have hPE : EnvR (putT env 0 l) k := put_env l env 0 HEr.out.1 HEr.out.2.2 HLm.out (by rw [HLl.out]; omega) (by rw [HLl.out]; omega)
              have hSx : RAt wr xb n2 := (HSr.out.1.on HB8.out).on HA.out.back
              have HXl := Lib.hid (HXf.out (putT env 0 l) y2 n2 wr ox mx cx hPE hyl HSr.out.2 hSx (by
                rcases hEx with ⟨h1, h2⟩ | ⟨bq, cq, h1, h2, h3, h4, h5⟩
                · exact .inl ⟨h1, h2⟩
                · refine .inr ⟨bq, cq, h1, fun e => ?_, h3, h4, h5⟩
                  subst e
                  cases hll : putT env 0 l with
                  | nil => exact absurd (show (putT env 0 l).length = 0 by rw [hll]; rfl) (by
                      have hne := put_ne l env 0 (by rw [HLl.out]; omega)
                      intro h; exact hne (List.eq_nil_of_length_eq_zero h))
                  | cons z zs =>
                    have := h5 0 z (by rw [hll]; rfl) 0 _ rfl
                    exact rat_far hSx this rfl))
              have hv := (HA.out.back.block w7.heap.size (Array.getElem?_eq_some_iff.1 HV8.out).1).trans HV8.out
              obtain ⟨p0, p1, p2, _⟩ := three_cells hv
              have HTe : Hid (Steps xb w wr) := HTr2.out.trans (Later.steps (HB8.out.on HA.out.back) xb)
              clear hEx hl9 hPE hSx hv hbx
              go_wp2_with fail
              refine HXl.out.mono ?_
              rintro e w9 ⟨u9, c9, rfl, hT9, hR9⟩
              have HT9 := Lib.hid (HTe.out.trans hT9)
              have HR9 := Lib.hid hR9
              clear hT9 hR9 HXl
              go_wp2_with fail
              go_ret2
              exact HR9.out.told HE4.out HT9.out
      · have q3 : ((txt nm).toList == [99, 97, 108, 108]) = false := by rw [name_eq]; exact decide_eq_false hcall
        have HE3 : Hid (r = callR n2 (callT nm acc)) := by
          show _ = _
          rw [HE2.out, HGd.out]
          show (if nm = nCallW then _ else _) = _
          rw [if_neg hcall]
        have hC := call10_any (txt nm) oo oc acc HSm.out wr HCl.out
        rw [txt_data, HAl.out] at hC
        have HC : Hid (Calls Tryz.prog 76 #[.string (txt nm), .slice oo i oc] wr fun e w' => e = .returned (.tuple #[.string (txt (callT nm acc).1), .int .i64 (callT nm acc).2]) ∧ Later wr w') := hC
        have HEr2 : Hid ((callT nm acc).2 ≠ 0 → (callT nm acc).1 = []) := call_err
        generalize callT nm acc = K at HC HE3 HEr2
        clear hC hcall HE2 HGd
        go_wp2_with fail
        refine HC.out.mono ?_
        rintro e w7 ⟨rfl, hb7⟩
        have HB7 := Lib.hid hb7
        clear hb7 HC
        go_wp2_with fail
        go_ret2
        by_cases hk0 : K.2 = 0
        · refine ⟨_, _, rfl, HTr2.out.trans (Later.steps HB7.out xb), .inr ⟨n2, K.1, ?_, rfl, hk0, HSr.out.1.on HB7.out, HSr.out.2⟩⟩
          rw [HE3.out]; unfold callR; rw [if_pos hk0]
        · refine ⟨_, _, rfl, HTr2.out.trans (Later.steps HB7.out xb), .inl ⟨?_, hk0, by rw [HEr2.out hk0]; rfl⟩⟩
          rw [HE3.out]; unfold callR; rw [if_neg hk0]
end Go.Proofs.YtbngoodjgijmgaaGreatDoor

namespace Go.Proofs.YtbngoodjgijmgaaGreatDoor
open Go.RowKit Go.Shelf
attribute [local go_sem] Oper.semAt_some

/-! ### the word that a reference begins with -/
theorem tw_mem (p : UInt8 → Bool) : ∀ (l : BT) (x : UInt8), x ∈ l.takeWhile p → p x = true
  | [], x, h => by simp at h
  | c :: l, x, h => by
    rw [List.takeWhile_cons] at h
    split at h
    · rename_i hc
      rcases List.mem_cons.1 h with rfl | h
      · exact hc
      · exact tw_mem p l x h
    · cases h
theorem tw_all (p : UInt8 → Bool) : ∀ (l : BT), (∀ x ∈ l, p x = true) → l.takeWhile p = l ∧ l.dropWhile p = []
  | [], _ => ⟨rfl, rfl⟩
  | c :: l, h => by
    obtain ⟨h1, h2⟩ := tw_all p l (fun x hx => h x (by simp [hx]))
    rw [List.takeWhile_cons, List.dropWhile_cons, if_pos (h c (by simp)), if_pos (h c (by simp)), h1, h2]
    exact ⟨rfl, rfl⟩
theorem pieces_head {l r : BT} {c : UInt8} (hl : ∀ x ∈ l, blankB x = false) (hc : blankB c = true) : pieces blankB (l ++ c :: r) = l :: pieces blankB r := by
  rw [pieces_app blankB l c r hc, pieces_none blankB l hl]; rfl
theorem words_head (s : BT) : (s.takeWhile fun x => !blankB x) ≠ [] → ∃ r, wordsT s = (s.takeWhile fun x => !blankB x) :: r := by
  intro h
  have h1 : ∀ x ∈ s.takeWhile (fun x => !blankB x), blankB x = false := fun x hx => by
    have := tw_mem _ _ _ hx
    simpa using this
  have h2 := List.takeWhile_append_dropWhile (p := fun x => !blankB x) (l := s)
  unfold wordsT
  cases hd : s.dropWhile (fun x => !blankB x) with
  | nil =>
    rw [hd, List.append_nil] at h2
    have h3 : pieces blankB s = [s.takeWhile fun x => !blankB x] := by
      conv => lhs; rw [← h2]
      exact pieces_none blankB _ h1
    rw [h3, List.filter_cons_of_pos (by simpa using h)]
    exact ⟨_, rfl⟩
  | cons c r =>
    rw [hd] at h2
    have hc : blankB c = true := by
      have := List.head?_dropWhile_not (fun x => !blankB x) s
      rw [hd] at this
      simpa using this
    have h3 : pieces blankB s = (s.takeWhile fun x => !blankB x) :: pieces blankB r := by
      conv => lhs; rw [← h2]
      exact pieces_head h1 hc
    rw [h3, List.filter_cons_of_pos (by simpa using h)]
    exact ⟨_, rfl⟩
theorem no_blank {s : BT} (h : hasBl s = false) : (s.takeWhile fun x => !blankB x) = s ∧ (s.dropWhile fun x => !blankB x) = [] := by
  have h1 : ∀ x ∈ s, (!blankB x) = true := fun x hx => by
    unfold hasBl at h
    rw [List.any_eq_false] at h
    simpa using h x hx
  exact tw_all _ s h1
/-- As the document asks for it: the first word, that the text begins with, and that is not all. -/
theorem fun_words (s : BT) : (wordsT s = [] ∧ funW s = []) ∨ ∃ w0 r, wordsT s = w0 :: r ∧ ((s.length ≤ w0.length ∧ funW s = []) ∨ (w0.length < s.length ∧ s.take w0.length ≠ w0 ∧ funW s = []) ∨ (w0.length < s.length ∧ s.take w0.length = w0 ∧ funW s = w0 ∧ funRest s = cutL (s.drop w0.length))) := by
  by_cases ht : (s.takeWhile fun x => !blankB x) = []
  · have hF : funW s = [] := by
      unfold funW
      split
      · exact ht
      · rfl
    cases hw : wordsT s with
    | nil => exact .inl ⟨rfl, hF⟩
    | cons w0 r =>
      refine .inr ⟨w0, r, rfl, ?_⟩
      by_cases hl : s.length ≤ w0.length
      · exact .inl ⟨hl, hF⟩
      refine .inr (.inl ⟨by omega, fun e => ?_, hF⟩)
      have h0 := (words_memT (show w0 ∈ wordsT s by rw [hw]; simp)).1
      cases s with
      | nil => simp at hl
      | cons c s =>
        have hc : blankB c = true := by
          rw [List.takeWhile_cons] at ht
          split at ht
          · cases ht
          · rename_i h; simpa using h
        cases w0 with
        | nil => exact h0.1 rfl
        | cons a w0 =>
          simp only [List.length_cons, List.take_succ_cons, List.cons.injEq] at e
          have := h0.2 a (by simp)
          rw [← e.1, hc] at this
          cases this
  · obtain ⟨r, hw⟩ := words_head s ht
    refine .inr ⟨_, r, hw, ?_⟩
    have h2 := List.takeWhile_append_dropWhile (p := fun x => !blankB x) (l := s)
    cases hb : hasBl s with
    | false =>
      obtain ⟨e1, _⟩ := no_blank hb
      rw [e1]
      exact .inl ⟨Nat.le_refl _, by unfold funW; rw [hb]; rfl⟩
    | true =>
      have hlt : (s.takeWhile fun x => !blankB x).length < s.length := by
        have h3 := congrArg List.length h2
        rw [List.length_append] at h3
        have h4 : (s.dropWhile fun x => !blankB x) ≠ [] := fun e => by
          rw [e, List.append_nil] at h2
          unfold hasBl at hb
          rw [List.any_eq_true] at hb
          obtain ⟨x, hx, hbx⟩ := hb
          rw [← h2] at hx
          have := tw_mem _ _ _ hx
          rw [hbx] at this
          cases this
        have := List.length_pos_iff.2 h4
        omega
      refine .inr (.inr ⟨hlt, ?_, ?_, ?_⟩)
      · have := congrArg (List.take (s.takeWhile fun x => !blankB x).length) h2
        rw [List.take_left] at this
        exact this.symm
      · unfold funW; rw [hb]; rfl
      · unfold funRest
        rw [hb, if_pos rfl]
        congr 1
        have := congrArg (List.drop (s.takeWhile fun x => !blankB x).length) h2
        rw [List.drop_left] at this
        exact this
theorem many_few (w : BT) : 0 ≤ manyOf w ∧ manyOf w ≤ 3 := by
  unfold manyOf
  split
  · omega
  split
  · omega
  split <;> omega
theorem most_nine (w : BT) : 0 ≤ mostT w ∧ mostT w ≤ 9 := by
  have := many_few w
  unfold mostT
  split
  · omega
  split
  · omega
  split <;> omega
/-- The document's own function, whichever. -/
theorem rfunction_any (k : Nat) (hX : RText k) (xb n d : Nat) (o : Option Addr) (m c : Nat) (env : EnvT) (ao : Option Addr) (an ac : Nat) (args : List BT) (nm : BT) (w : World) (hd : d + k = 20) (h : AtR xb n w (.slice o m c) env) (hE : EnvR env k) (hl1 : env.length + 10 + 10 * k ≤ 1000)
    (han : an = args.length) (hs : ∀ x ∈ args, x.length ≤ 4000) (hr : CellsW w ao ac args) (hfew : leastT nm ≤ (an : Int)) (hmost : (an : Int) ≤ mostT nm) (h1 : 1 ≤ an) :
    Calls Tryz.prog 55 #[.pointer (some ⟨xb, 0, none⟩), .agg #[.slice o m c], .string (txt nm), .slice ao an ac, .int .i64 (d : Int)] w (PostR xb (funB (textE k) env nm args n) w) := by
  by_cases hi : nm = nIf
  · have e1 : leastT nm = 2 := by unfold leastT; rw [if_pos hi]
    have e2 : mostT nm = 3 := by unfold mostT; rw [if_pos hi]
    exact rfun_if k hX xb n d o m c env ao an ac args nm w hd h hE hl1 han hs hr hi (by omega) (by omega)
  by_cases hf : nm = nForeach
  · have e1 : leastT nm = 3 := by unfold leastT; rw [if_neg hi, if_pos hf]
    have e2 : mostT nm = 3 := by unfold mostT; rw [if_neg hi, if_pos hf]
    exact rfun_each k hX xb n d o m c env ao an ac args nm w hd h hE hl1 han hs hr hf (by omega)
  · have := most_nine nm
    exact rfun_rest k hX xb n d o m c env ao an ac args nm w hd h hE hl1 han hs hr hi hf h1 (by omega)
end Go.Proofs.YtbngoodjgijmgaaGreatDoor

namespace Go.Proofs.YtbngoodjgijmgaaGreatDoor
open Go.RowKit Go.Shelf
attribute [local go_sem] Oper.semAt_some

theorem args_long (M : Nat) (s : BT) : (argsT M s).length ≤ M + 1 := (argsT_len M s).1
set_option maxRecDepth 100000 in
set_option maxHeartbeats 8000000 in
theorem rrefer_any (k : Nat) (hX : RBelow k) (hV : ∀ j, k = j + 1 → RVal j) : RRef k := by
  intro xb n d o m c env s w hd h hE hs
  have hx := h.steps.lt
  have HP : Hid (∀ W, Steps xb (boxR w o m c) W → Steps xb w W ∧ W.cell? ⟨w.heap.size, 0, none⟩ = some (.slice o m c)) := fun W hT => boxed hx hT
  have HS0 : Hid (RAt (boxR w o m c) xb n ∧ n ≤ 2000) := ⟨h.steps.on (Later.self w _), h.few⟩
  have HT0 : Hid (Steps xb (boxR w o m c) (boxR w o m c)) := Turned.refl _ _
  have HBg := Lib.hid (rbegin_any xb n d (boxR w o m c) HS0.out.1 HS0.out.2 (by omega))
  have HAt : Hid (∀ W n2, Steps xb w W → RAt W xb n2 → n2 ≤ 2000 → AtR xb n2 W (.slice o m c) env) := fun W n2 hT hS hn => h.turned hT hS hn
  have HEr := Lib.hid hE
  have HXb := Lib.hid hX
  have HVb := Lib.hid hV
  have HD := Lib.hid hd
  have hd20' : d ≤ 20 := by omega
  obtain ⟨r, hr⟩ : ∃ r, r = refE k env s n := ⟨_, rfl⟩
  rw [← hr]
  have HRk := Lib.hid hr
  clear h hE hX hV hd hr
  go_enter Tryz.func39, Tryz.ntmps39
  go_wp2_with fail
  refine HBg.out.mono ?_
  rintro e w1 hr1
  rcases hr1 with ⟨hd20, rfl, rfl⟩ | ⟨hd20, hn20, rfl, hT1⟩ | ⟨hd20, hn20, rfl, hT1, hs1⟩
  · obtain rfl : k = 0 := by have := HD.out; omega
    clear HBg HAt HXb HVb
    go_wp2_with fail
    go_ret2
    exact post_err (HRk.out.trans (ref_zero env s n)) (by decide) (HP.out _ HT0.out).1
  · obtain ⟨j, rfl⟩ : ∃ j, k = j + 1 := ⟨k - 1, by have := HD.out; omega⟩
    have HF : Hid (r = .error 12) := by
      show _ = _
      rw [HRk.out, ref_succ]; unfold stepR; rw [if_pos (by omega)]
    have HT1 := Lib.hid hT1
    clear hT1 HBg HAt HXb HVb
    go_wp2_with fail
    go_ret2
    exact post_err HF.out (by decide) (HP.out _ HT1.out).1
  obtain ⟨j, rfl⟩ : ∃ j, k = j + 1 := ⟨k - 1, by have := HD.out; omega⟩
  have HR : Hid (r = refB (textE j) (valE j) env s (n + 1)) := by
    show _ = _
    rw [HRk.out, ref_succ]; unfold stepR; rw [if_neg (by omega)]
  obtain ⟨n1, hn1⟩ : ∃ n1, n1 = n + 1 := ⟨_, rfl⟩
  rw [← hn1] at HR hs1
  have hn1f : n1 ≤ 2000 := by omega
  have HX : RText j := HXb.out j rfl
  have HV : RVal j := HVb.out j rfl
  have hdj : d + 1 + j = 20 := by have := HD.out; omega
  have HAtj := HAt
  have hEj := HEr.out.less
  have hel : env.length + 10 + 10 * j ≤ 1000 := by have := HEr.out.2.1; omega
  have HTx : Hid (∀ n2 t W, Steps xb w W → RAt W xb n2 → n2 ≤ 2000 → t.length ≤ 4000 → Calls Tryz.prog 24 #[.pointer (some ⟨xb, 0, none⟩), .agg #[.slice o m c], .string (txt t), .int .i64 ((d : Int) + 1)] W (PostR xb (textE j env t n2) W)) := fun n2 t W hT hS hn ht => HX xb n2 (d + 1) o m c env t W hdj (HAt.out W n2 hT hS hn) hEj ht
  have HVx : Hid (∀ n2 t W, Steps xb w W → RAt W xb n2 → n2 ≤ 2000 → t.length ≤ 4000 → Calls Tryz.prog 40 #[.pointer (some ⟨xb, 0, none⟩), .agg #[.slice o m c], .string (txt t), .int .i64 ((d : Int) + 1)] W (PostR xb (valE j env t n2) W)) := fun n2 t W hT hS hn ht => HV xb n2 (d + 1) o m c env t W hdj (HAt.out W n2 hT hS hn) hEj ht
  have HUx : Hid (∀ n2 a p q W, Steps xb w W → RAt W xb n2 → n2 ≤ 2000 → a.length ≤ 4000 → p.length ≤ 4000 → q.length ≤ 4000 → Calls Tryz.prog 57 #[.pointer (some ⟨xb, 0, none⟩), .agg #[.slice o m c], .string (txt a), .string (txt p), .string (txt q), .int .i64 ((d : Int) + 1)] W (PostR xb (turnS (textE j env) (valE j env) a p q n2) W)) := fun n2 a p q W hT hS hn ha hp hq => rturned_any j HX HV xb n2 (d + 1) o m c env a p q W hdj (HAt.out W n2 hT hS hn) hEj ha hp hq
  have HFx : Hid (∀ (n2 : Nat) (nm : BT) (ao : Option Addr) (an ac : Nat) (args : List BT) (W : World), Steps xb w W → RAt W xb n2 → n2 ≤ 2000 → an = args.length → (∀ x ∈ args, x.length ≤ 4000) → CellsW W ao ac args → leastT nm ≤ (an : Int) → (an : Int) ≤ mostT nm → 1 ≤ an → Calls Tryz.prog 55 #[.pointer (some ⟨xb, 0, none⟩), .agg #[.slice o m c], .string (txt nm), .slice ao an ac, .int .i64 ((d : Int) + 1)] W (PostR xb (funB (textE j) env nm args n2) W)) := fun n2 nm ao an ac args W hT hS hn han hz hc h1 h2 h3 => rfunction_any j HX xb n2 (d + 1) o m c env ao an ac args nm W hdj (HAt.out W n2 hT hS hn) hEj hel han hz hc h1 h2 h3
  have hwd : IntKind.i64.wrap ((d : Int) + 1) = (d : Int) + 1 := by rw [IntKind.wrap_i64]; omega
  have HT1 := Lib.hid hT1
  have HS1 := Lib.hid hs1
  have HWd := Lib.hid (rwords_txt s (by omega))
  have hzs : (txt s).size = s.length := txt_size s
  have y1 := (HP.out _ HT1.out).2
  have HSt : Hid (∀ t n m u, textE j env t n = .ok (m, u) → u.length ≤ 4000) := fun t n m u e => short_textE j env t n m u e
  clear hT1 hs1 hn1 HRk HX HV hEj HBg HAt HAtj HXb HVb hdj hel
  go_wp2_with fail
  refine (HWd.out _).mono ?_
  rintro e w5 ⟨wo, wcp, rfl, hcw, hb5⟩
  obtain ⟨nw, hnw⟩ : ∃ nw, nw = (wordsT s).length := ⟨_, rfl⟩
  rw [← hnw]
  have HT5 : Hid (Steps xb (boxR w o m c) w5) := HT1.out.trans (Later.steps hb5 xb)
  have HS5 : Hid (RAt w5 xb n1) := HS1.out.on hb5
  have HCl := words_stay hcw HS5.out hnw
  have hFW := fun_words s
  clear hcw hb5 HWd y1
  -- the test, joined
  obtain ⟨fl, HFl⟩ : ∃ fl : Bool, Hid ((fl = false ∧ funW s = [] ∧ ((nw = 0) ∨ ∃ w0, (wordsT s)[0]? = some w0 ∧ 0 < nw ∧ ((s.length ≤ w0.length) ∨ (w0.length < s.length ∧ s.take w0.length ≠ w0)))) ∨ (fl = true ∧ ∃ w0, (wordsT s)[0]? = some w0 ∧ 0 < nw ∧ w0.length < s.length ∧ s.take w0.length = w0 ∧ funW s = w0 ∧ funRest s = cutL (s.drop w0.length))) := by
    rcases hFW with ⟨h1, h2⟩ | ⟨w0, r0, h1, h3⟩
    · exact ⟨false, .inl ⟨rfl, h2, .inl (by rw [hnw, h1]; rfl)⟩⟩
    · have h4 : (wordsT s)[0]? = some w0 := by rw [h1]; rfl
      have h5 : 0 < nw := by rw [hnw, h1]; simp
      rcases h3 with ⟨h6, h7⟩ | ⟨h6, h7, h8⟩ | ⟨h6, h7, h8, h9⟩
      · exact ⟨false, .inl ⟨rfl, h7, .inr ⟨w0, h4, h5, .inl h6⟩⟩⟩
      · exact ⟨false, .inl ⟨rfl, h8, .inr ⟨w0, h4, h5, .inr ⟨h6, h7⟩⟩⟩⟩
      · exact ⟨true, .inr ⟨rfl, w0, h4, h5, h6, h7, h8, h9⟩⟩
  clear hFW hnw
  go_upto_region 5 with fail
  go_cut [54] (fun tv wx => tv = .bool fl ∧ ∃ q, wx = w5.drewN q)
  case first =>
    rcases HFl.out with ⟨hfl, _, h0 | ⟨w0, hw0, hpos, h6 | ⟨h6, h7⟩⟩⟩ | ⟨hfl, w0, hw0, hpos, h6, h7, _⟩
    · have d0 : decide ((0 : Int) < (nw : Int)) = false := decide_eq_false (by omega)
      have d1 : ¬ 0 < nw := by omega
      subst hfl
      clear h0 HFl
      go_wp2
      go_quiet (fail)
      go_wp2_with fail
      go_meet
      exact ⟨rfl, nq, rfl⟩
    · obtain ⟨b, f, rfl, hnc, hcell⟩ := HCl.out w5 (Turned.refl _ _) 0 w0 hw0
      rw [Nat.add_zero] at hcell
      have d0 : decide ((0 : Int) < (nw : Int)) = true := decide_eq_true (by omega)
      have dI : (0 : Int) < (nw : Int) := by omega
      have d2 : decide ((w0.length : Int) < (s.length : Int)) = false := decide_eq_false (by omega)
      have d3 : ¬ (w0.length : Int) < (s.length : Int) := by omega
      have hz0 : (txt w0).size = w0.length := txt_size _
      have hN : ¬ w0.length < s.length := by omega
      subst hfl
      clear h6 HFl hw0
      go_wp2
      go_quiet (fail)
      go_wp2_with fail
      go_meet
      exact ⟨rfl, nq, rfl⟩
    · obtain ⟨b, f, rfl, hnc, hcell⟩ := HCl.out w5 (Turned.refl _ _) 0 w0 hw0
      rw [Nat.add_zero] at hcell
      have d0 : decide ((0 : Int) < (nw : Int)) = true := decide_eq_true (by omega)
      have dI : (0 : Int) < (nw : Int) := by omega
      have d2 : decide ((w0.length : Int) < (s.length : Int)) = true := decide_eq_true (by omega)
      have d3 : (w0.length : Int) < (s.length : Int) := by omega
      have d4 : (w0.length : Int) ≤ (s.length : Int) := by omega
      have hz0 : (txt w0).size = w0.length := txt_size _
      have x1 : (txt s).extract 0 w0.length = txt (s.take w0.length) := by rw [extract_txt, txt_data, List.drop_zero, Nat.sub_zero]
      have e1 : ((txt (s.take w0.length)).toList == (txt w0).toList) = false := by rw [txt_toL, txt_toL]; simpa using h7
      generalize s.take w0.length = tk at x1 e1
      subst hfl
      clear h7 HFl hw0
      go_wp2
      go_quiet (fail)
      go_wp2_with fail
      go_meet
      exact ⟨rfl, nq, rfl⟩
    · obtain ⟨b, f, rfl, hnc, hcell⟩ := HCl.out w5 (Turned.refl _ _) 0 w0 hw0
      rw [Nat.add_zero] at hcell
      have d0 : decide ((0 : Int) < (nw : Int)) = true := decide_eq_true (by omega)
      have dI : (0 : Int) < (nw : Int) := by omega
      have d2 : decide ((w0.length : Int) < (s.length : Int)) = true := decide_eq_true (by omega)
      have d3 : (w0.length : Int) < (s.length : Int) := by omega
      have d4 : (w0.length : Int) ≤ (s.length : Int) := by omega
      have hz0 : (txt w0).size = w0.length := txt_size _
      have x1 : (txt s).extract 0 w0.length = txt w0 := by rw [extract_txt, txt_data, List.drop_zero, Nat.sub_zero, h7]
      have e1 : ((txt w0).toList == (txt w0).toList) = true := by simp
      subst hfl
      clear h7 HFl hw0
      go_wp2
      go_quiet (fail)
      go_wp2_with fail
      go_meet
      exact ⟨rfl, nq, rfl⟩
  case rest =>
    obtain ⟨rfl, q5, hw⟩ := hcut
    have hw2 := hw.symm
    have HT6 : Hid (Steps xb (boxR w o m c) (w5.drewN q5)) := HT5.out.trans (Turned.drewN _ _ _)
    have HS6 : Hid (RAt (w5.drewN q5) xb n1) := HS5.out
    have HCl6 : Hid (∀ W', Steps xb (w5.drewN q5) W' → ∀ k x, (wordsT s)[k]? = some x → ∃ b f, wo = some ⟨b, f, none⟩ ∧ nw ≤ wcp ∧ W'.cell? ⟨b, f + k, none⟩ = some (.string (txt x))) := fun W' hT k x hk => HCl.out W' ((Turned.drewN (fun b => b = xb ∨ w5.heap.size ≤ b) w5 q5).trans (Steps.wide (B := w5.heap.size) hT)) k x hk
    generalize w5.drewN q5 = w6 at hw2 HT6 HS6 HCl6
    subst hw2
    clear hw HT5 HS5 HCl HT1 HS1
    have y6 := (HP.out _ HT6.out).2
    rcases HFl.out with ⟨hfl, hfw, _⟩ | ⟨hfl, w0, hw0, hpos, h6, h7, h8, h9⟩
    · subst hfl
      have HM : Hid (mostT (funW s) = 0) := by show _ = _; rw [hfw]; decide
      clear hfw HFl HCl6
      have HcK := Lib.hid (rcut_one w6 s [58] (by omega) (by decide))
      have HcL : Hid (∀ W, Calls Tryz.prog 56 #[.string (txt (cutOf [[58]] s).2.2), .slice (some ⟨W.heap.size, 0, none⟩) 1 1] (W.alloc (.cells #[.string (txt [61])] 9)) fun e w' => e = .returned (.tuple #[.string (txt (cutOf [[61]] (cutOf [[58]] s).2.2).1), .string (txt (cutOf [[61]] (cutOf [[58]] s).2.2).2.1), .string (txt (cutOf [[61]] (cutOf [[58]] s).2.2).2.2)]) ∧ Later W w') := fun W => rcut_one W _ [61] (by have := cut_short [[58]] s; omega) (by decide)
      have hsh1 := cut_short1 [[58]] s
      have hsh2 := cut_short [[58]] s
      have hsh3 := cut_short1 [[61]] (cutOf [[58]] s).2.2
      have hsh4 := cut_short [[61]] (cutOf [[58]] s).2.2
      have hah : (cutOf [[58]] s).2.1 = [] → (cutOf [[61]] (cutOf [[58]] s).2.2).2.1 = [] := fun h0 => by
        rw [(cut_ahead h0 (by simp)).2]; decide
      have HRv : Hid (r = if (cutOf [[61]] (cutOf [[58]] s).2.2).2.1 = [] then Rb (textE j env s n1) fun m x => valE j env x m else turnS (textE j env) (valE j env) (cutOf [[58]] s).1 (cutOf [[61]] (cutOf [[58]] s).2.2).1 (cutOf [[61]] (cutOf [[58]] s).2.2).2.2 n1) := by
        show _ = _
        rw [HR.out]
        unfold refB
        rw [if_pos HM.out]
        unfold varB
        rw [turnS_is]
      generalize cutOf [[61]] (cutOf [[58]] s).2.2 = L at HcL hsh3 hsh4 hah HRv
      generalize cutOf [[58]] s = K at HcK HcL hsh1 hsh2 hsh3 hsh4 hah HRv
      have HcK2 : Hid (Calls Tryz.prog 56 #[.string (txt s), .slice (some ⟨w6.heap.size, 0, none⟩) 1 1] (w6.alloc (.cells #[.string ⟨#[58]⟩] 9)) fun e w' => e = .returned (.tuple #[.string (txt K.1), .string (txt K.2.1), .string (txt K.2.2)]) ∧ Later w6 w') := HcK
      have HcL2 : Hid (∀ W, Calls Tryz.prog 56 #[.string (txt K.2.2), .slice (some ⟨W.heap.size, 0, none⟩) 1 1] (W.alloc (.cells #[.string ⟨#[61]⟩] 9)) fun e w' => e = .returned (.tuple #[.string (txt L.1), .string (txt L.2.1), .string (txt L.2.2)]) ∧ Later W w') := HcL
      clear HcK HcL HR HM HFx
      go_wp2_with fail
      refine HcK2.out.mono ?_
      rintro e w7 ⟨rfl, hb7⟩
      have HT7 : Hid (Steps xb (boxR w o m c) w7) := HT6.out.trans (Later.steps hb7 xb)
      have HS7 : Hid (RAt w7 xb n1) := HS6.out.on hb7
      clear hb7 HcK2
      go_wp2_with fail
      refine (HcL2.out _).mono ?_
      rintro e w8 ⟨rfl, hb8⟩
      have HT8 : Hid (Steps xb (boxR w o m c) w8) := HT7.out.trans (Later.steps hb8 xb)
      have HS8 : Hid (RAt w8 xb n1) := HS7.out.on hb8
      have y8 := (HP.out _ HT8.out).2
      clear hb8 HcL2
      by_cases hL : L.2.1 = []
      · have e9 : (txt L.2.1).toList.isEmpty = true := by rw [hL, txt_toL]; rfl
        rw [if_pos hL] at HRv
        obtain ⟨bk, hbk⟩ : ∃ bk, (txt K.2.1).toList.isEmpty = bk := ⟨_, rfl⟩
        have HTt := Lib.hid (HTx.out n1 s w8 (HP.out _ HT8.out).1 HS8.out hn1f hs)
        clear hL hah HUx
        cases bk
        all_goals (
          go_wp2_with fail
          refine HTt.out.mono ?_
          rintro e w9 ⟨u9, c9, rfl, hT9, hR9⟩
          have HT9 : Hid (Steps xb (boxR w o m c) w9) := HT8.out.trans hT9
          have y9 := (HP.out _ HT9.out).2
          have HR9 := Lib.hid hR9
          clear hT9 hR9 HTt y8
          by_cases hc9 : c9 = 0
          · subst hc9
            obtain ⟨n9, t9, hr9, hu9, hs9, hn9⟩ := HR9.out.good
            subst hu9
            have HEv : Hid (r = valE j env t9 n9) := by
              show _ = _
              rw [HRv.out, hr9, Rb_ok]
            have ht9 := HSt.out _ _ _ _ hr9
            have HVv := Lib.hid (HVx.out n9 t9 w9 (HP.out _ HT9.out).1 hs9 hn9 ht9)
            clear hr9 hs9 HR9 HRv
            go_wp2_with fail
            refine HVv.out.mono ?_
            rintro e w10 ⟨u10, c10, rfl, hT10, hR10⟩
            have HT10 := Lib.hid ((HP.out _ HT9.out).1.trans hT10)
            have HR10 := Lib.hid hR10
            clear hT10 hR10 HVv
            go_wp2_with fail
            go_ret2
            exact HR10.out.told HEv.out HT10.out
          · obtain ⟨hr9, rfl⟩ := HR9.out.bad hc9
            have HF : Hid (r = .error c9) := by
              show _ = _
              rw [HRv.out, hr9]; rfl
            have e5 : (c9 != 0) = true := by rw [bne_iff_ne]; exact hc9
            have HC := Lib.hid hc9
            clear hr9 hc9 HR9 HRv
            go_wp2_with fail
            go_ret2
            exact post_err HF.out HC.out (HP.out _ HT9.out).1)
      · have e9 : (txt L.2.1).toList.isEmpty = false := by rw [txt_toL]; simpa using hL
        have e8 : (txt K.2.1).toList.isEmpty = false := by rw [txt_toL]; simpa using fun h => hL (hah h)
        rw [if_neg hL] at HRv
        have HUu := Lib.hid (HUx.out n1 K.1 L.1 L.2.2 w8 (HP.out _ HT8.out).1 HS8.out hn1f (by omega) (by omega) (by omega))
        clear hL hah HTx
        go_wp2_with fail
        refine HUu.out.mono ?_
        rintro e w10 ⟨u10, c10, rfl, hT10, hR10⟩
        have HT10 := Lib.hid ((HP.out _ HT8.out).1.trans hT10)
        have HR10 := Lib.hid hR10
        clear hT10 hR10 HUu
        go_wp2_with fail
        go_ret2
        exact HR10.out.told HRv.out HT10.out
    · subst hfl
      obtain ⟨b, f, rfl, hnc, hcell⟩ := HCl6.out w6 (Turned.refl _ _) 0 w0 hw0
      rw [Nat.add_zero] at hcell
      have dI : (0 : Int) < (nw : Int) := by omega
      have HW0 : Hid (∀ W', Steps xb w6 W' → W'.cell? ⟨b, f, none⟩ = some (.string (txt w0))) := fun W' hT => by
        obtain ⟨b', f', e, _, hc⟩ := HCl6.out W' hT 0 w0 hw0
        cases e; exact hc
      have HLe := Lib.hid (rleast_any w0)
      have hmo := most_nine w0
      have h6i : (w0.length : Int) ≤ (s.length : Int) := by omega
      have hz0 : (txt w0).size = w0.length := txt_size _
      have HM0 : Hid (mostT w0 = 0 → mostT (funW s) = 0) := fun h => by rw [h8]; exact h
      have HRf : Hid (mostT w0 ≠ 0 → r = if ((argsT ((mostT w0).toNat - 1) (cutL (s.drop w0.length))).length : Int) < leastT w0 then .error 1 else funB (textE j) env w0 (argsT ((mostT w0).toNat - 1) (cutL (s.drop w0.length))) n1) := fun h => by
        rw [HR.out]
        unfold refB
        rw [h8, if_neg h, h9]
      have hdl : (s.drop w0.length).length ≤ 4000 := by rw [List.length_drop]; omega
      have hcl : (cutL (s.drop w0.length)).length ≤ 4000 := by have := cutL_len (s.drop w0.length); omega
      have x1 : (txt s).extract w0.length (txt s).size = txt (s.drop w0.length) := by rw [extract_txt, take_rest, txt_data]
      have x2 : (txt s).extract w0.length s.length = txt (s.drop w0.length) := by rw [← x1, txt_size]
      have HLf := Lib.hid (rleft_any (s.drop w0.length))
      have HFy : Hid (∀ (ao : Option Addr) (an ac : Nat) (args : List BT) (W : World), Steps xb w W → RAt W xb n1 → an = args.length → (∀ x ∈ args, x.length ≤ 4000) → CellsW W ao ac args → leastT w0 ≤ (an : Int) → (an : Int) ≤ mostT w0 → 1 ≤ an → Calls Tryz.prog 55 #[.pointer (some ⟨xb, 0, none⟩), .agg #[.slice o m c], .string (txt w0), .slice ao an ac, .int .i64 ((d : Int) + 1)] W (PostR xb (funB (textE j) env w0 args n1) W)) := fun ao an ac args W hT hS h1 h2 h3 h4 h5 h6 => HFx.out n1 w0 ao an ac args W hT hS hn1f h1 h2 h3 h4 h5 h6
      have HAl : Hid (∀ M, ∀ x ∈ argsT M (cutL (s.drop w0.length)), x.length ≤ 4000) := fun M x hx => by have := argsT_short M _ x hx; omega
      have HRg : Hid (∀ (M : Nat) W, M ≤ 100 → Calls Tryz.prog 53 #[.string (txt (cutL (s.drop w0.length))), .int .i64 ((M : Int) + 1)] W fun e w' => ∃ o n c, e = .returned (.slice o n c) ∧ n = (argsT M (cutL (s.drop w0.length))).length ∧ OwnT w' W.heap.size (.slice o n c) (argsT M (cutL (s.drop w0.length))) ∧ Below W.heap.size W w') := fun M W hM => rargs_any _ M (by omega) hM W
      generalize s.drop w0.length = tl at x1 x2 HLf HRg HAl HRf hdl hcl
      generalize leastT w0 = le at HLe HFy HRf
      generalize mostT w0 = mo at HLe HFy HRf hmo HM0
      clear h6 h7 h8 h9 HFl HCl6 hw0
      go_wp2_with fail
      refine (HLe.out _).mono ?_
      rintro e _ ⟨rfl, rfl⟩
      clear HLe
      by_cases hm0 : mo = 0
      · have g0 : ¬ (0 : Int) < mo := by omega
        have HM := Lib.hid (HM0.out hm0)
        clear hm0 HM0 HRf HFy HRg HAl HLf hmo
        have HcK := Lib.hid (rcut_one w6 s [58] (by omega) (by decide))
        have HcL : Hid (∀ W, Calls Tryz.prog 56 #[.string (txt (cutOf [[58]] s).2.2), .slice (some ⟨W.heap.size, 0, none⟩) 1 1] (W.alloc (.cells #[.string (txt [61])] 9)) fun e w' => e = .returned (.tuple #[.string (txt (cutOf [[61]] (cutOf [[58]] s).2.2).1), .string (txt (cutOf [[61]] (cutOf [[58]] s).2.2).2.1), .string (txt (cutOf [[61]] (cutOf [[58]] s).2.2).2.2)]) ∧ Later W w') := fun W => rcut_one W _ [61] (by have := cut_short [[58]] s; omega) (by decide)
        have hsh1 := cut_short1 [[58]] s
        have hsh2 := cut_short [[58]] s
        have hsh3 := cut_short1 [[61]] (cutOf [[58]] s).2.2
        have hsh4 := cut_short [[61]] (cutOf [[58]] s).2.2
        have hah : (cutOf [[58]] s).2.1 = [] → (cutOf [[61]] (cutOf [[58]] s).2.2).2.1 = [] := fun h0 => by
          rw [(cut_ahead h0 (by simp)).2]; decide
        have HRv : Hid (r = if (cutOf [[61]] (cutOf [[58]] s).2.2).2.1 = [] then Rb (textE j env s n1) fun m x => valE j env x m else turnS (textE j env) (valE j env) (cutOf [[58]] s).1 (cutOf [[61]] (cutOf [[58]] s).2.2).1 (cutOf [[61]] (cutOf [[58]] s).2.2).2.2 n1) := by
          show _ = _
          rw [HR.out]
          unfold refB
          rw [if_pos HM.out]
          unfold varB
          rw [turnS_is]
        generalize cutOf [[61]] (cutOf [[58]] s).2.2 = L at HcL hsh3 hsh4 hah HRv
        generalize cutOf [[58]] s = K at HcK HcL hsh1 hsh2 hsh3 hsh4 hah HRv
        have HcK2 : Hid (Calls Tryz.prog 56 #[.string (txt s), .slice (some ⟨w6.heap.size, 0, none⟩) 1 1] (w6.alloc (.cells #[.string ⟨#[58]⟩] 9)) fun e w' => e = .returned (.tuple #[.string (txt K.1), .string (txt K.2.1), .string (txt K.2.2)]) ∧ Later w6 w') := HcK
        have HcL2 : Hid (∀ W, Calls Tryz.prog 56 #[.string (txt K.2.2), .slice (some ⟨W.heap.size, 0, none⟩) 1 1] (W.alloc (.cells #[.string ⟨#[61]⟩] 9)) fun e w' => e = .returned (.tuple #[.string (txt L.1), .string (txt L.2.1), .string (txt L.2.2)]) ∧ Later W w') := HcL
        clear HcK HcL HR HM HFx
        go_wp2_with fail
        refine HcK2.out.mono ?_
        rintro e w7 ⟨rfl, hb7⟩
        have HT7 : Hid (Steps xb (boxR w o m c) w7) := HT6.out.trans (Later.steps hb7 xb)
        have HS7 : Hid (RAt w7 xb n1) := HS6.out.on hb7
        clear hb7 HcK2
        go_wp2_with fail
        refine (HcL2.out _).mono ?_
        rintro e w8 ⟨rfl, hb8⟩
        have HT8 : Hid (Steps xb (boxR w o m c) w8) := HT7.out.trans (Later.steps hb8 xb)
        have HS8 : Hid (RAt w8 xb n1) := HS7.out.on hb8
        have y8 := (HP.out _ HT8.out).2
        clear hb8 HcL2
        by_cases hL : L.2.1 = []
        · have e9 : (txt L.2.1).toList.isEmpty = true := by rw [hL, txt_toL]; rfl
          rw [if_pos hL] at HRv
          obtain ⟨bk, hbk⟩ : ∃ bk, (txt K.2.1).toList.isEmpty = bk := ⟨_, rfl⟩
          have HTt := Lib.hid (HTx.out n1 s w8 (HP.out _ HT8.out).1 HS8.out hn1f hs)
          clear hL hah HUx
          cases bk
          all_goals (
            go_wp2_with fail
            refine HTt.out.mono ?_
            rintro e w9 ⟨u9, c9, rfl, hT9, hR9⟩
            have HT9 : Hid (Steps xb (boxR w o m c) w9) := HT8.out.trans hT9
            have y9 := (HP.out _ HT9.out).2
            have HR9 := Lib.hid hR9
            clear hT9 hR9 HTt y8
            by_cases hc9 : c9 = 0
            · subst hc9
              obtain ⟨n9, t9, hr9, hu9, hs9, hn9⟩ := HR9.out.good
              subst hu9
              have HEv : Hid (r = valE j env t9 n9) := by
                show _ = _
                rw [HRv.out, hr9, Rb_ok]
              have ht9 := HSt.out _ _ _ _ hr9
              have HVv := Lib.hid (HVx.out n9 t9 w9 (HP.out _ HT9.out).1 hs9 hn9 ht9)
              clear hr9 hs9 HR9 HRv
              go_wp2_with fail
              refine HVv.out.mono ?_
              rintro e w10 ⟨u10, c10, rfl, hT10, hR10⟩
              have HT10 := Lib.hid ((HP.out _ HT9.out).1.trans hT10)
              have HR10 := Lib.hid hR10
              clear hT10 hR10 HVv
              go_wp2_with fail
              go_ret2
              exact HR10.out.told HEv.out HT10.out
            · obtain ⟨hr9, rfl⟩ := HR9.out.bad hc9
              have HF : Hid (r = .error c9) := by
                show _ = _
                rw [HRv.out, hr9]; rfl
              have e5 : (c9 != 0) = true := by rw [bne_iff_ne]; exact hc9
              have HC := Lib.hid hc9
              clear hr9 hc9 HR9 HRv
              go_wp2_with fail
              go_ret2
              exact post_err HF.out HC.out (HP.out _ HT9.out).1)
        · have e9 : (txt L.2.1).toList.isEmpty = false := by rw [txt_toL]; simpa using hL
          have e8 : (txt K.2.1).toList.isEmpty = false := by rw [txt_toL]; simpa using fun h => hL (hah h)
          rw [if_neg hL] at HRv
          have HUu := Lib.hid (HUx.out n1 K.1 L.1 L.2.2 w8 (HP.out _ HT8.out).1 HS8.out hn1f (by omega) (by omega) (by omega))
          clear hL hah HTx
          go_wp2_with fail
          refine HUu.out.mono ?_
          rintro e w10 ⟨u10, c10, rfl, hT10, hR10⟩
          have HT10 := Lib.hid ((HP.out _ HT8.out).1.trans hT10)
          have HR10 := Lib.hid hR10
          clear hT10 hR10 HUu
          go_wp2_with fail
          go_ret2
          exact HR10.out.told HRv.out HT10.out
      · have g0 : (0 : Int) < mo := by omega
        have HRf2 := Lib.hid (HRf.out hm0)
        obtain ⟨M, hM⟩ : ∃ M : Nat, mo = (M : Int) + 1 := ⟨(mo - 1).toNat, by omega⟩
        have hM8 : M ≤ 8 := by omega
        have hMt : mo.toNat - 1 = M := by omega
        rw [hMt] at HRf2
        subst hM
        generalize cutL tl = ct at HLf HRg HAl HRf2 hcl
        have HRg2 := Lib.hid (HRg.out M w6 (by omega))
        have HAl2 := Lib.hid (HAl.out M)
        have hal : 1 ≤ (argsT M ct).length ∧ (argsT M ct).length ≤ M + 1 := ⟨(argsT_len M ct).2, (argsT_len M ct).1⟩
        clear hm0 HM0 HRf HRg HAl HTx HVx HUx hmo hMt HR
        go_wp2_with fail
        refine (HLf.out _).mono ?_
        rintro e _ ⟨rfl, rfl⟩
        go_wp2_with fail
        refine HRg2.out.mono ?_
        rintro e w7 ⟨ao, an, ac, rfl, han, hown, hb7⟩
        generalize argsT M ct = args at han hown hal HAl2 HRf2
        have HT7 : Hid (Steps xb (boxR w o m c) w7) := HT6.out.trans (Later.steps hb7 xb)
        have HS7 : Hid (RAt w7 xb n1) := HS6.out.on hb7
        have HU7 : Hid (Steps xb w6 w7) := Later.steps hb7 xb
        have y7 := (HP.out _ HT7.out).2
        have hw7 := HW0.out w7 HU7.out
        have hal1 : 1 ≤ an := by omega
        have hal2 : an ≤ M + 1 := by omega
        have HCa := Lib.hid hown.cells
        rw [← han] at HRf2
        have HAn := Lib.hid han
        clear hb7 hown han hal HRg2 HLf
        by_cases hle : (an : Int) < le
        · have HF : Hid (r = .error 1) := by
            show _ = _
            rw [HRf2.out, if_pos hle]
          clear HFy HRf2
          go_wp2_with fail
          go_ret2
          exact post_err HF.out (by decide) (HP.out _ HT7.out).1
        · have HF : Hid (r = funB (textE j) env w0 args n1) := by
            show _ = _
            rw [HRf2.out, if_neg hle]
          have HFz : Hid (∀ W, Steps xb w W → RAt W xb n1 → Later w7 W → Calls Tryz.prog 55 #[.pointer (some ⟨xb, 0, none⟩), .agg #[.slice o m c], .string (txt w0), .slice ao an ac, .int .i64 ((d : Int) + 1)] W (PostR xb (funB (textE j) env w0 args n1) W)) := fun W hT hS hb => HFy.out ao an ac args W hT hS HAn.out HAl2.out (HCa.out.below hb) (by omega) (by omega) hal1
          clear HFy HRf2
          go_wp2_with fail
          go_region_held3 (fun w' => w'.cell? ⟨w.heap.size, 0, none⟩ = some (.slice o m c) ∧ w'.cell? ⟨b, f, none⟩ = some (.string (txt w0)))
            (first | (go_keep; done))
            (first | (go_at_call 55; (first | refine (HFz.out _ ((HP.out _ HT7.out).1.trans (Turned.drew _ _)) HS7.out ((Below.refl _ _).drew)).mono ?_ | refine (HFz.out _ (HP.out _ HT7.out).1 HS7.out (Below.refl _ _)).mono ?_); rintro e w8 ⟨u8, c8, rfl, hT8, hR8⟩; have HT8 : Hid (Steps xb w7 w8) := (by first | exact (Turned.drew _ _).trans hT8 | exact hT8); have HR8 := Lib.hid hR8; clear hT8 hR8; have k0 := (HP.out _ (HT7.out.trans HT8.out)).2; have k1 := HW0.out _ (HU7.out.trans HT8.out)))
          go_wp2_with fail
          go_ret2
          exact HR8.out.told HF.out ((HP.out _ HT7.out).1.trans HT8.out)
/-! ### all levels -/
theorem rlev_any : ∀ k : Nat, RRef k ∧ RVal k ∧ RText k
  | 0 => by
    have h1 : RRef 0 := rrefer_any 0 (fun j h => by omega) (fun j h => by omega)
    have h2 : RVal 0 := rvalue_any 0 (fun j h => by omega)
    exact ⟨h1, h2, rtext_any 0 h1 h2⟩
  | k + 1 => by
    have ih := rlev_any k
    have h1 : RRef (k + 1) := rrefer_any (k + 1) (fun j h => by cases h; exact ih.2.2) (fun j h => by cases h; exact ih.2.1)
    have h2 : RVal (k + 1) := rvalue_any (k + 1) (fun j h => by cases h; exact ih.2.2)
    exact ⟨h1, h2, rtext_any (k + 1) h1 h2⟩
set_option maxRecDepth 100000 in
set_option maxHeartbeats 1000000 in
/-- The document's own Expand tells the same. -/
theorem rexpand_any (Q : Nat → Prop) (o : Option Addr) (m c : Nat) (env : EnvT) (s : BT) (w : World) (h : EnvS w Q (.slice o m c) env) (hE : EnvR env 20) (hs : s.length ≤ 4000) :
    Calls Tryz.prog 14 #[.agg #[.slice o m c], .string (txt s)] w fun e w' => e = .returned (.tuple #[.string (txt (expandT env s).1), .int .i64 (expandT env s).2]) ∧ Later w w' := by
  have hb := below_two w (.cells #[.slice o m c] 28) (.cells #[.int .i64 0] 66)
  have h1 := heap_first w (.cells #[.slice o m c] 28) (.cells #[.int .i64 0] 66)
  have h2 := heap_second w (.cells #[.slice o m c] 28) (.cells #[.int .i64 0] 66)
  have hA : AtR (w.heap.size + 1) 0 ((w.alloc (.cells #[.slice o m c] 28)).alloc (.cells #[.int .i64 0] 66)) (.slice o m c) env :=
    ⟨h2, by omega, (h.wider (Q' := fun b => b ≠ w.heap.size + 1) (fun b hb _ => by omega)).below hb⟩
  have hX := (rlev_any 20).2.2 (w.heap.size + 1) 0 0 o m c env s _ rfl hA hE hs
  have HX : Hid (Calls Tryz.prog 24 #[.pointer (some ⟨w.heap.size + 1, 0, none⟩), .agg #[.slice o m c], .string (txt s), .int .i64 0] ((w.alloc (.cells #[.slice o m c] 28)).alloc (.cells #[.int .i64 0] 66)) fun e w' => e = .returned (.tuple #[.string (txt (expandT env s).1), .int .i64 (expandT env s).2]) ∧ Later w w') := by
    refine hX.mono ?_
    rintro e w' ⟨u, cc, rfl, hT, hr⟩
    have hbb : Later w w' := hb.trans (hT.below (by simp; omega) (fun k hk => by omega))
    unfold expandT
    rcases hr with ⟨hr, hc, rfl⟩ | ⟨n, t, hr, rfl, rfl, _, _⟩
    · rw [hr]; exact ⟨rfl, hbb⟩
    · rw [hr]; exact ⟨rfl, hbb⟩
  clear hX hA hb h2 h hE
  obtain ⟨q1, _⟩ := one_cell h1
  clear h1
  go_enter Tryz.func14, Tryz.ntmps14
  go_wp2_with fail
  refine HX.out.mono ?_
  rintro e w1 ⟨rfl, hb1⟩
  have HB1 := Lib.hid hb1
  clear hb1 HX
  go_wp2_with fail
  go_ret2
  exact ⟨rfl, HB1.out⟩
end Go.Proofs.YtbngoodjgijmgaaGreatDoor
