/-
  What the document's own turned answers; what stays while steps are counted and rows grow. No condition but sizes.
  What the document's own each answers: a text for each word. No condition but sizes.
  What the document's own function answers: a condition, a foreach, a call, a function of words. No condition but sizes.
-/
import Derived.StillTailTactics
import Derived.Test.YtbngoodjgijmgaaGreatDoorTT
import Derived.Test.YtbngoodjgijmgaaGreatDoorZN
namespace Go.Proofs.YtbngoodjgijmgaaGreatDoor
open Go.RowKit Go.Shelf
attribute [local go_sem] Oper.semAt_some

/-! ### what stays -/
/-- Only the steps, and what came from B on, are turned. -/
abbrev Wide (xb B : Nat) (w W : World) : Prop := Turned (fun b => b = xb ∨ B ≤ b) w W
theorem Turned.sub {X Y : Nat → Prop} {w W : World} (h : Turned X w W) (hy : ∀ k, k < w.heap.size → X k → Y k) : Turned Y w W := ⟨h.os, h.tape, h.output, h.size, fun k hk hx => h.block k hk (fun h => hx (hy k hk h))⟩
theorem Wide.steps {xb B : Nat} {w W : World} (h : Wide xb B w W) (hB : w.heap.size ≤ B) : Steps xb w W := h.sub (fun k hk hx => by rcases hx with h | h; exact h; omega)
theorem Steps.wide {xb B : Nat} {w W : World} (h : Steps xb w W) : Wide xb B w W := h.sub (fun _ _ h => .inl h)
theorem below_wide {xb B : Nat} {w W : World} (h : Below B w W) : Wide xb B w W := ⟨h.os, h.tape, h.output, h.size, fun k hk hx => h.block k (by omega)⟩
theorem OwnT.turned {X : Nat → Prop} {W W' : World} {base : Nat} {v : Value} {l : List BT} (h : OwnT W base v l) (hT : Turned X W W') (hx : ∀ b, base ≤ b → ¬ X b) : OwnT W' base v l := by
  refine ⟨h.1, ?_⟩
  rcases h.2 with h | ⟨g, cap, cur, h1, h2, h3, h4⟩
  · exact .inl h
  · exact .inr ⟨g, cap, cur, h1, h2, (hT.block g (Array.getElem?_eq_some_iff.1 h3).1 (hx g h2)).trans h3, h4⟩
theorem OwnT.len {W : World} {base n c : Nat} {o : Option Addr} {l : List BT} (h : OwnT W base (.slice o n c) l) : n = l.length := by
  rcases h.2 with ⟨hv, h0⟩ | ⟨g, cap, cur, hv, _⟩
  · cases hv; exact h0.symm
  · cases hv; rfl
theorem OwnT.cells {W : World} {base n c : Nat} {o : Option Addr} {l : List BT} (h : OwnT W base (.slice o n c) l) : CellsW W o c l := fun k x hk => by
  rcases h.2 with ⟨_, h0⟩ | ⟨g, cap, cur, hv, h1, h2, h3, h4, h5, h6⟩
  · rw [List.length_eq_zero_iff.1 h0] at hk; simp at hk
  · cases hv
    refine ⟨g, 0, rfl, (Array.getElem?_eq_some_iff.1 h2).1, h3, ?_⟩
    rw [Lib.cell_of_heap h2, Nat.zero_add]
    have hjl : k < l.length := (List.getElem?_eq_some_iff.1 hk).1
    have e : (strV l)[k]? = some (.string (txt x)) := by simp [strV, hk]
    rw [← h6, List.getElem?_take, if_pos (by omega)] at e
    rw [← Array.getElem?_toList]; exact e
theorem rat_far {W : World} {xb n b f : Nat} {t : ByteArray} (h : RAt W xb n) (hc : W.cell? ⟨b, f, none⟩ = some (.string t)) : b ≠ xb := fun e => by
  subst e
  rw [Lib.cell_of_heap h] at hc
  cases f with
  | zero => simp at hc
  | succ f => simp at hc
/-- The words that were told, as long as only the steps, and what came behind them, are turned. -/
theorem words_stay {W : World} {xb n : Nat} {o : Option Addr} {c : Nat} {l : List BT} (h : CellsW W o c l) (hs : RAt W xb n) {m : Nat} (hm : m = l.length) : Hid (∀ W', Wide xb W.heap.size W W' → ∀ k x, l[k]? = some x → ∃ b f, o = some ⟨b, f, none⟩ ∧ m ≤ c ∧ W'.cell? ⟨b, f + k, none⟩ = some (.string (txt x))) := fun W' hT k x hk => by
  obtain ⟨b, f, h1, h2, h3, h4⟩ := h k x hk
  have hbx := rat_far hs h4
  refine ⟨b, f, h1, by omega, ?_⟩
  rw [← h4]
  unfold World.cell?
  rw [hT.block b h2 (by rintro (h | h); exact hbx h; omega)]
set_option maxRecDepth 100000 in
theorem refOpen_any (p : ByteArray) (hp : p.size ≤ maxLen) (w : World) : Calls Tryz.prog 78 #[.string p] w fun e w' => e = .returned (.bool (openB p.data.toList)) ∧ w' = w := by
  have HM := Lib.hid (marks_any p hp)
  clear hp
  cases he : p.toList.isEmpty with
  | true =>
    have HN : Hid (openB p.data.toList = false) := by
      show _ = _
      rw [Lib.toList_data] at he
      simp at he
      simp [openB, he]
    go_enter Tryz.func78, Tryz.ntmps78
    go_wp2_with (go_at_call 105; refine (HM.out _).mono ?_; rintro e w' ⟨a, rfl, _, _, rfl⟩)
    go_ret
    exact ⟨ret_bool HN.out.symm, rfl⟩
  | false =>
    go_enter Tryz.func78, Tryz.ntmps78
    go_wp2_with (go_at_call 105; refine (HM.out _).mono ?_; rintro e w' ⟨a, rfl, _, _, rfl⟩)
    go_ret
    exact ⟨ret_bool (nat_beq _ 1), rfl⟩
/-! ### turned -/
def turnS (E V : BT → Nat → R) (a p q : BT) (n : Nat) : R := Rb (E a n) fun n1 t1 => Rb (E p n1) fun n2 t2 => Rb (E q n2) fun n3 t3 => Rb (V t1 n3) fun n4 s => turnedR s t2 t3 n4
theorem turnS_is (E V : BT → Nat → R) (a p q : BT) (n : Nat) : (Rb (textsR E [a, p, q] n) fun m l => Rb (V (l.getD 0 []) m) fun m' s => turnedR s (l.getD 1 []) (l.getD 2 []) m') = turnS E V a p q n := by
  unfold turnS
  unfold textsR
  rw [Rb_assoc]; congr 1; funext n1 t1
  unfold textsR
  rw [Rb_assoc, Rb_assoc]; congr 1; funext n2 t2
  unfold textsR
  rw [Rb_assoc, Rb_assoc]; congr 1
theorem turn_words (f : BT → BT) (l : List BT) (n : Nat) : textsR (fun w k => .ok (k, f w)) l n = .ok (n, l.map f) := by
  induction l generalizing n with
  | nil => rfl
  | cons x r ih => unfold textsR; rw [Rb_ok, ih, Rb_ok]; rfl
theorem turned_is (s p q : BT) (n : Nat) : turnedR s p q n = finR n (joinT ((wordsT s).map (substL (turnP p q).1 (turnP p q).2))) := by
  unfold turnedR eachR
  rw [turn_words, Rb_ok]
/-- What is known of text, as long as nothing but the steps is turned. -/
def RTextAt (k xb d : Nat) (o : Option Addr) (m c : Nat) (env : EnvT) (w : World) : Prop :=
  ∀ (n : Nat) (s : BT) (W : World), Steps xb w W → RAt W xb n → n ≤ 2000 → s.length ≤ 4000 →
    Calls Tryz.prog 24 #[.pointer (some ⟨xb, 0, none⟩), .agg #[.slice o m c], .string (txt s), .int .i64 (d : Int)] W (PostR xb (textE k env s n) W)
theorem RText.at {k xb n d : Nat} {o : Option Addr} {m c : Nat} {env : EnvT} {w : World} (hX : RText k) (hd : d + k = 20) (h : AtR xb n w (.slice o m c) env) (hE : EnvR env k) : RTextAt k xb d o m c env w :=
  fun n' s W hT hS hn hs => hX xb n' d o m c env s W hd (h.turned hT hS hn) hE hs
def RValAt (k xb d : Nat) (o : Option Addr) (m c : Nat) (env : EnvT) (w : World) : Prop :=
  ∀ (n : Nat) (s : BT) (W : World), Steps xb w W → RAt W xb n → n ≤ 2000 → s.length ≤ 4000 →
    Calls Tryz.prog 40 #[.pointer (some ⟨xb, 0, none⟩), .agg #[.slice o m c], .string (txt s), .int .i64 (d : Int)] W (PostR xb (valE k env s n) W)
theorem RVal.at {k xb n d : Nat} {o : Option Addr} {m c : Nat} {env : EnvT} {w : World} (hX : RVal k) (hd : d + k = 20) (h : AtR xb n w (.slice o m c) env) (hE : EnvR env k) : RValAt k xb d o m c env w :=
  fun n' s W hT hS hn hs => hX xb n' d o m c env s W hd (h.turned hT hS hn) hE hs
/-- The variables in a block of their own. -/
abbrev boxR (w : World) (o : Option Addr) (m c : Nat) : World := w.alloc (.cells #[.slice o m c] 28)
theorem boxed {w W : World} {o : Option Addr} {m c xb : Nat} (hx : xb < w.heap.size) (hT : Steps xb (boxR w o m c) W) : Steps xb w W ∧ W.cell? ⟨w.heap.size, 0, none⟩ = some (.slice o m c) := by
  have h1 : W.heap[w.heap.size]? = some (.cells #[.slice o m c] 28 (0, 0)) := (hT.block _ (by simp) (by omega)).trans (World.alloc_heap_new w _)
  exact ⟨((Later.self w _).steps xb).trans hT, (one_cell h1).1⟩
theorem subst_told (p q s : BT) (hp : p.length ≤ 5000) (hq : q.length ≤ 5000) (hs : s.length ≤ 5000) (w : World) : Calls Tryz.prog 79 #[.string (txt p), .string (txt q), .string (txt s)] w fun e w' => e = .returned (.string (txt (substL p q s))) ∧ ∃ n, w' = w.drewN n := by
  have := refSubst_any (txt p) (txt q) (txt s) (by rw [txt_size]; omega) (by rw [txt_size]; omega) (by rw [txt_size]; omega) w
  rw [txt_data, txt_data, txt_data] at this
  exact this
theorem open_told (p : BT) (hp : p.length ≤ 5000) (w : World) : Calls Tryz.prog 78 #[.string (txt p)] w fun e w' => e = .returned (.bool (openB p)) ∧ w' = w := by
  have := refOpen_any (txt p) (by rw [txt_size]; unfold maxLen; omega) w
  rw [txt_data] at this
  exact this
theorem rwords_txt (s : BT) (hs : s.length ≤ 100000) (W : World) : Calls Tryz.prog 51 #[.string (txt s)] W fun e W' => ∃ o c, e = .returned (.slice o (wordsT s).length c) ∧ CellsW W' o c (wordsT s) ∧ Below W.heap.size W W' := by
  have := rwords_told (txt s) (by rw [txt_size]; exact hs) W
  rw [txt_data] at this
  exact this
set_option maxRecDepth 100000 in
set_option maxHeartbeats 8000000 in
theorem rturned_any (k : Nat) (hX : RText k) (hV : RVal k) (xb n d : Nat) (o : Option Addr) (m c : Nat) (env : EnvT) (a p q : BT) (w : World) (hd : d + k = 20) (h : AtR xb n w (.slice o m c) env) (hE : EnvR env k)
    (ha : a.length ≤ 4000) (hp : p.length ≤ 4000) (hq : q.length ≤ 4000) :
    Calls Tryz.prog 57 #[.pointer (some ⟨xb, 0, none⟩), .agg #[.slice o m c], .string (txt a), .string (txt p), .string (txt q), .int .i64 (d : Int)] w (PostR xb (turnS (textE k env) (valE k env) a p q n) w) := by
  have hx := h.steps.lt
  have HX : Hid (RTextAt k xb d o m c env w) := hX.at hd h hE
  have HV : Hid (RValAt k xb d o m c env w) := hV.at hd h hE
  have HP : Hid (∀ W, Steps xb (boxR w o m c) W → Steps xb w W ∧ W.cell? ⟨w.heap.size, 0, none⟩ = some (.slice o m c)) := fun W hT => boxed hx hT
  have HS0 : Hid (RAt (boxR w o m c) xb n ∧ n ≤ 2000) := ⟨h.steps.on (Later.self w _), h.few⟩
  have HT0 : Hid (Steps xb (boxR w o m c) (boxR w o m c)) := Turned.refl _ _
  have HSt : Hid (∀ s n m t, textE k env s n = .ok (m, t) → t.length ≤ 4000) := fun s n m t e => short_textE k env s n m t e
  have HSv : Hid (∀ s n m t, valE k env s n = .ok (m, t) → t.length ≤ 4000) := fun s n m t e => short_valE k env s n m t e
  obtain ⟨_, y0⟩ := HP.out _ HT0.out
  obtain ⟨r, hr⟩ : ∃ r, r = turnS (textE k env) (valE k env) a p q n := ⟨_, rfl⟩
  rw [← hr]
  unfold turnS at hr
  have HE0 := Lib.hid hr
  clear hr h hE hX hV hd
  go_enter Tryz.func57, Tryz.ntmps57
  go_wp2_with fail
  refine (HX.out n a _ (HP.out _ HT0.out).1 HS0.out.1 HS0.out.2 ha).mono ?_
  rintro e w1 ⟨u1, c1, rfl, hT1, hR1⟩
  have HT1 : Hid (Steps xb (boxR w o m c) w1) := HT0.out.trans hT1
  obtain ⟨_, y1⟩ := HP.out _ HT1.out
  have HR1 := Lib.hid hR1
  clear hT1 hR1 y0
  by_cases hc1 : c1 = 0
  case neg =>
    obtain ⟨hb1, rfl⟩ := HR1.out.bad hc1
    have e1 : (c1 != 0) = true := by rw [bne_iff_ne]; exact hc1
    have HF : Hid (r = .error c1) := by
      show _ = _
      rw [HE0.out, hb1]; rfl
    have HC := Lib.hid hc1
    clear hb1 hc1
    go_wp2_with fail
    go_ret2
    exact post_err HF.out HC.out (HP.out _ HT1.out).1
  subst hc1
  obtain ⟨n1, t1, hr1, hu1, hs1, hn1⟩ := HR1.out.good
  subst hu1
  have HS1 : Hid (RAt w1 xb n1 ∧ n1 ≤ 2000) := ⟨hs1, hn1⟩
  have HE1 := Lib.hid (show r = _ by rw [HE0.out, hr1, Rb_ok])
  have hl1 : t1.length ≤ 4000 := HSt.out _ _ _ _ hr1
  clear hr1 hs1 HR1 hn1 HE0
  go_wp2_with fail
  refine (HX.out n1 p _ (HP.out _ HT1.out).1 HS1.out.1 HS1.out.2 hp).mono ?_
  rintro e w2 ⟨u2, c2, rfl, hT2, hR2⟩
  have HT2 : Hid (Steps xb (boxR w o m c) w2) := HT1.out.trans hT2
  obtain ⟨_, y2⟩ := HP.out _ HT2.out
  have HR2 := Lib.hid hR2
  clear hT2 hR2 y1
  by_cases hc2 : c2 = 0
  case neg =>
    obtain ⟨hb2, rfl⟩ := HR2.out.bad hc2
    have e2 : (c2 != 0) = true := by rw [bne_iff_ne]; exact hc2
    have HF : Hid (r = .error c2) := by
      show _ = _
      rw [HE1.out, hb2]; rfl
    have HC := Lib.hid hc2
    clear hb2 hc2
    go_wp2_with fail
    go_ret2
    exact post_err HF.out HC.out (HP.out _ HT2.out).1
  subst hc2
  obtain ⟨n2, t2, hr2, hu2, hs2, hn2⟩ := HR2.out.good
  subst hu2
  have HS2 : Hid (RAt w2 xb n2 ∧ n2 ≤ 2000) := ⟨hs2, hn2⟩
  have HE2 := Lib.hid (show r = _ by rw [HE1.out, hr2, Rb_ok])
  have hl2 : t2.length ≤ 4000 := HSt.out _ _ _ _ hr2
  clear hr2 hs2 HR2 hn2 HE1
  go_wp2_with fail
  refine (HX.out n2 q _ (HP.out _ HT2.out).1 HS2.out.1 HS2.out.2 hq).mono ?_
  rintro e w3 ⟨u3, c3, rfl, hT3, hR3⟩
  have HT3 : Hid (Steps xb (boxR w o m c) w3) := HT2.out.trans hT3
  obtain ⟨_, y3⟩ := HP.out _ HT3.out
  have HR3 := Lib.hid hR3
  clear hT3 hR3 y2
  by_cases hc3 : c3 = 0
  case neg =>
    obtain ⟨hb3, rfl⟩ := HR3.out.bad hc3
    have e3 : (c3 != 0) = true := by rw [bne_iff_ne]; exact hc3
    have HF : Hid (r = .error c3) := by
      show _ = _
      rw [HE2.out, hb3]; rfl
    have HC := Lib.hid hc3
    clear hb3 hc3
    go_wp2_with fail
    go_ret2
    exact post_err HF.out HC.out (HP.out _ HT3.out).1
  subst hc3
  obtain ⟨n3, t3, hr3, hu3, hs3, hn3⟩ := HR3.out.good
  subst hu3
  have HS3 : Hid (RAt w3 xb n3 ∧ n3 ≤ 2000) := ⟨hs3, hn3⟩
  have HE3 := Lib.hid (show r = _ by rw [HE2.out, hr3, Rb_ok])
  have hl3 : t3.length ≤ 4000 := HSt.out _ _ _ _ hr3
  clear hr3 hs3 HR3 hn3 HE2
  go_wp2_with fail
  refine (HV.out n3 t1 _ (HP.out _ HT3.out).1 HS3.out.1 HS3.out.2 hl1).mono ?_
  rintro e w4 ⟨u4, c4, rfl, hT4, hR4⟩
  have HT4 : Hid (Steps xb (boxR w o m c) w4) := HT3.out.trans hT4
  obtain ⟨_, y4⟩ := HP.out _ HT4.out
  have HR4 := Lib.hid hR4
  clear hT4 hR4 y3
  by_cases hc4 : c4 = 0
  case neg =>
    obtain ⟨hb4, rfl⟩ := HR4.out.bad hc4
    have e4 : (c4 != 0) = true := by rw [bne_iff_ne]; exact hc4
    have HF : Hid (r = .error c4) := by
      show _ = _
      rw [HE3.out, hb4]; rfl
    have HC := Lib.hid hc4
    clear hb4 hc4
    go_wp2_with fail
    go_ret2
    exact post_err HF.out HC.out (HP.out _ HT4.out).1
  subst hc4
  obtain ⟨n4, t4, hr4, hu4, hs4, hn4⟩ := HR4.out.good
  subst hu4
  have HS4 : Hid (RAt w4 xb n4 ∧ n4 ≤ 2000) := ⟨hs4, hn4⟩
  have HE4 := Lib.hid (show r = _ by rw [HE3.out, hr4, Rb_ok])
  have hl4 : t4.length ≤ 4000 := HSv.out _ _ _ _ hr4
  clear hr4 hs4 HR4 hn4 HE3
  obtain ⟨P, Q, hPQ⟩ : ∃ P Q, turnP t2 t3 = (P, Q) := ⟨_, _, rfl⟩
  have hPl : P.length ≤ 4001 ∧ Q.length ≤ 4001 := by
    unfold turnP at hPQ
    split at hPQ
    · cases hPQ; omega
    · cases hPQ; simp; omega
  have HO := Lib.hid (open_told t2 (by omega))
  have HPQ := Lib.hid hPQ
  have HE := Lib.hid (show r = finR n4 (joinT ((wordsT t4).map (substL P Q))) by rw [HE4.out, turned_is, HPQ.out])
  clear HE4
  have HWd := Lib.hid (rwords_txt t4 (by omega))
  have hwl : (wordsT t4).length ≤ 4001 := by have := words_few t4; omega
  have HSub : Hid (∀ x ∈ wordsT t4, ∀ W, Calls Tryz.prog 79 #[.string (txt P), .string (txt Q), .string (txt x)] W fun e w' => e = .returned (.string (txt (substL P Q x))) ∧ ∃ n, w' = W.drewN n) := fun x hx W => subst_told P Q x (by omega) (by omega) (by have := (words_memT hx).2; omega) W
  have HSl : Hid (∀ x ∈ wordsT t4, (substL P Q x).length ≤ 20000) := fun x hx => by have := substL_len P Q x; have := (words_memT hx).2; omega
  clear hPQ
  obtain ⟨ws, hws⟩ : ∃ ws, ws = wordsT t4 := ⟨_, rfl⟩
  rw [← hws] at hwl HSub HSl HE HWd
  have HWs := Lib.hid hws
  clear hws HX HV HSt HSv
  have hway : (openB t2 = true ∧ P = t2 ∧ Q = t3) ∨ (openB t2 = false ∧ txt P = ⟨#[37]⟩ ++ txt t2 ∧ txt Q = ⟨#[37]⟩ ++ txt t3) := by
    have hPQ := HPQ.out
    unfold turnP at hPQ
    cases ho : openB t2 with
    | true =>
      rw [ho, if_pos rfl] at hPQ
      cases hPQ
      exact .inl ⟨rfl, rfl, rfl⟩
    | false =>
      rw [ho, if_neg (by simp)] at hPQ
      cases hPQ
      exact .inr ⟨rfl, (add_txt [37] t2).symm, (add_txt [37] t3).symm⟩
  clear HPQ
  go_wp2_with fail
  refine (HO.out _).mono ?_
  rintro e _ ⟨rfl, rfl⟩
  clear HO
  rcases hway with ⟨ho, rfl, rfl⟩ | ⟨ho, hP1, hQ1⟩
  · rw [ho]
    clear ho
    go_wp2_with fail
    refine (HWd.out _).mono ?_
    rintro e w5 ⟨wo, wc, rfl, hcw, hb5⟩
    obtain ⟨nw, hnw⟩ : ∃ nw, nw = ws.length := ⟨_, rfl⟩
    rw [← hnw]
    have hnw4 : nw ≤ 4001 := by rw [hnw]; exact hwl
    have hs5 := HS4.out.1.on hb5
    have HCl := words_stay hcw hs5 hnw
    have HT5 : Hid (Steps xb w w5) := (HP.out _ HT4.out).1.trans (Later.steps hb5 xb)
    have HS5 := Lib.hid hs5
    have HNw := Lib.hid hnw
    clear hcw hb5 hs5 HWd hnw y4 HP
    go_wp2_with fail
    go_loopw [23, 24] (fun ov iv wr => ∃ (i : Nat) (oo : Option Addr) (oc : Nat), i ≤ nw ∧ ov = .slice oo i oc ∧ iv = .int .i64 (i : Int) ∧ Hid (Below w5.heap.size w5 wr) ∧ Hid (OwnT wr w5.heap.size (.slice oo i oc) ((ws.take i).map (substL P Q)))) (fun _ iv _ => nw - (intOf iv).toNat)
    case atStart => exact ⟨0, none, 0, Nat.zero_le _, rfl, rfl, Below.refl _ _, OwnT.nil _ _⟩
    case round =>
      obtain ⟨i, oo, oc, hi, rfl, rfl, HB, HO⟩ := hrel
      by_cases hlt : i < nw
      · obtain ⟨x, hx1⟩ : ∃ x, ws[i]? = some x := ⟨_, List.getElem?_eq_getElem (by rw [← HNw.out]; exact hlt)⟩
        obtain ⟨b, f, rfl, hnc, hcell⟩ := HCl.out wr (below_wide HB.out) i x hx1
        have HS := Lib.hid (HSub.out x (List.mem_of_getElem? hx1))
        have hil : (i : Int) < (nw : Int) := by omega
        have hi0 : (0 : Int) ≤ (i : Int) := by omega
        have HXk := Lib.hid hx1
        clear hx1
        go_wp2_with fail
        refine (HS.out _).mono ?_
        rintro e w6 ⟨rfl, q6, rfl⟩
        have HB6 := Lib.hid (HB.out.trans (below_drewN (Below.refl w5.heap.size wr) q6))
        have HO6 : Hid (OwnT (wr.drewN q6) w5.heap.size (.slice oo i oc) ((ws.take i).map (substL P Q))) := HO.out.turned (Turned.drewN (fun _ => False) wr q6) (fun _ _ h => h)
        generalize wr.drewN q6 = w6 at HB6 HO6 ⊢
        obtain ⟨o7, m7, c7, w7, hrun, hown7, hb7⟩ := run_append_told w5.heap.size (.slice oo i oc) _ (substL P Q x) HO6.out (by rw [List.length_map, List.length_take]; omega) HB6.out.size 99
        have hm7 := hown7.len
        rw [List.length_append, List.length_map, List.length_take, ← HNw.out, Nat.min_eq_left (by omega)] at hm7
        have hm8 : m7 = i + 1 := hm7
        subst hm8
        have HO7 : Hid (OwnT w7 w5.heap.size (.slice o7 (i + 1) c7) ((ws.take (i + 1)).map (substL P Q))) := by
          rw [List.take_add_one, HXk.out, List.map_append]
          exact hown7
        have HB7 := Lib.hid (HB6.out.trans hb7)
        clear hown7 hb7 hm7 HO6 HB6 HO HB hcell
        go_wp2_with (at_builtin; refine wpList_append_eq rfl _ _ 99 rfl _ _ _ w7 rfl rfl hrun ?_)
        go_roundw
        case rel => exact ⟨i + 1, o7, c7, hlt, rfl, by go_num, HB7, HO7⟩
        case measure => simp [intOf]; omega
      · obtain rfl : i = nw := by omega
        have hil : ¬ (i : Int) < (i : Int) := by omega
        have ho9 := HO.out
        rw [List.take_of_length_le (by rw [HNw.out]; exact Nat.le_refl _)] at ho9
        have HJ : Hid (∀ W, W = wr → Calls Tryz.prog 80 #[.slice oo i oc] W fun e w' => e = .returned (.string (txt (joinT (ws.map (substL P Q))))) ∧ W = w') := fun W hW => by
          subst hW
          have hr := (CellsW.reads ho9.cells)
          rw [← ho9.len] at hr
          exact refJoin_big _ _ W hr (by rw [List.length_map]; omega) (fun y hy => by
            obtain ⟨z, hz, rfl⟩ := List.mem_map.1 hy
            exact HSl.out z hz)
        have HTe : Hid (Steps xb w wr) := HT5.out.trans ((below_wide (xb := xb) HB.out).steps (Nat.le_refl _))
        have HSe : Hid (RAt wr xb n4) := HS5.out.on HB.out
        obtain ⟨J, hJ⟩ : ∃ J, J = joinT (ws.map (substL P Q)) := ⟨_, rfl⟩
        rw [← hJ] at HJ HE
        have hsz : (txt J).size = J.length := txt_size _
        clear ho9 hJ HO HCl HSub HSl HB
        go_wp2_with fail
        refine (HJ.out _ rfl).mono ?_
        rintro e _ ⟨rfl, rfl⟩
        by_cases h4 : 4000 < J.length
        · have HF := Lib.hid (show r = .error 3 by rw [HE.out, fin_err n4 h4])
          have g1 : (4000 : Int) < (J.length : Int) := by omega
          clear h4
          go_wp2_with fail
          go_ret2
          exact post_err HF.out (by decide) HTe.out
        · have HF := Lib.hid (show r = .ok (n4, J) by rw [HE.out, fin_ok n4 (by omega)])
          have g1 : ¬ (4000 : Int) < (J.length : Int) := by omega
          clear h4
          go_wp2_with fail
          go_ret2
          exact post_ok HF.out HTe.out HSe.out HS4.out.2
  · rw [ho]
    have hz1 : (txt t2).size = t2.length := txt_size _
    have hz2 : (txt t3).size = t3.length := txt_size _
    have hz3 : (⟨#[37]⟩ ++ txt t2 : ByteArray).size ≤ 5000 := by rw [ByteArray.size_append, txt_size]; show 1 + _ ≤ _; omega
    have hz4 : (⟨#[37]⟩ ++ txt t3 : ByteArray).size ≤ 5000 := by rw [ByteArray.size_append, txt_size]; show 1 + _ ≤ _; omega
    rw [hP1, hQ1] at HSub
    clear ho
    go_wp2_with fail
    refine (HWd.out _).mono ?_
    rintro e w5 ⟨wo, wc, rfl, hcw, hb5⟩
    obtain ⟨nw, hnw⟩ : ∃ nw, nw = ws.length := ⟨_, rfl⟩
    rw [← hnw]
    have hnw4 : nw ≤ 4001 := by rw [hnw]; exact hwl
    have hs5 := HS4.out.1.on hb5
    have HCl := words_stay hcw hs5 hnw
    have HT5 : Hid (Steps xb w w5) := (HP.out _ HT4.out).1.trans (Later.steps hb5 xb)
    have HS5 := Lib.hid hs5
    have HNw := Lib.hid hnw
    clear hcw hb5 hs5 HWd hnw y4 HP
    go_wp2_with fail
    go_loopw [23, 24] (fun ov iv wr => ∃ (i : Nat) (oo : Option Addr) (oc : Nat), i ≤ nw ∧ ov = .slice oo i oc ∧ iv = .int .i64 (i : Int) ∧ Hid (Below w5.heap.size w5 wr) ∧ Hid (OwnT wr w5.heap.size (.slice oo i oc) ((ws.take i).map (substL P Q)))) (fun _ iv _ => nw - (intOf iv).toNat)
    case atStart => exact ⟨0, none, 0, Nat.zero_le _, rfl, rfl, Below.refl _ _, OwnT.nil _ _⟩
    case round =>
      obtain ⟨i, oo, oc, hi, rfl, rfl, HB, HO⟩ := hrel
      by_cases hlt : i < nw
      · obtain ⟨x, hx1⟩ : ∃ x, ws[i]? = some x := ⟨_, List.getElem?_eq_getElem (by rw [← HNw.out]; exact hlt)⟩
        obtain ⟨b, f, rfl, hnc, hcell⟩ := HCl.out wr (below_wide HB.out) i x hx1
        have HS := Lib.hid (HSub.out x (List.mem_of_getElem? hx1))
        have hil : (i : Int) < (nw : Int) := by omega
        have hi0 : (0 : Int) ≤ (i : Int) := by omega
        have HXk := Lib.hid hx1
        clear hx1
        go_wp2_with fail
        refine (HS.out _).mono ?_
        rintro e w6 ⟨rfl, q6, rfl⟩
        have HB6 := Lib.hid (HB.out.trans (below_drewN (Below.refl w5.heap.size wr) q6))
        have HO6 : Hid (OwnT (wr.drewN q6) w5.heap.size (.slice oo i oc) ((ws.take i).map (substL P Q))) := HO.out.turned (Turned.drewN (fun _ => False) wr q6) (fun _ _ h => h)
        generalize wr.drewN q6 = w6 at HB6 HO6 ⊢
        obtain ⟨o7, m7, c7, w7, hrun, hown7, hb7⟩ := run_append_told w5.heap.size (.slice oo i oc) _ (substL P Q x) HO6.out (by rw [List.length_map, List.length_take]; omega) HB6.out.size 99
        have hm7 := hown7.len
        rw [List.length_append, List.length_map, List.length_take, ← HNw.out, Nat.min_eq_left (by omega)] at hm7
        have hm8 : m7 = i + 1 := hm7
        subst hm8
        have HO7 : Hid (OwnT w7 w5.heap.size (.slice o7 (i + 1) c7) ((ws.take (i + 1)).map (substL P Q))) := by
          rw [List.take_add_one, HXk.out, List.map_append]
          exact hown7
        have HB7 := Lib.hid (HB6.out.trans hb7)
        clear hown7 hb7 hm7 HO6 HB6 HO HB hcell
        go_wp2_with (at_builtin; refine wpList_append_eq rfl _ _ 99 rfl _ _ _ w7 rfl rfl hrun ?_)
        go_roundw
        case rel => exact ⟨i + 1, o7, c7, hlt, rfl, by go_num, HB7, HO7⟩
        case measure => simp [intOf]; omega
      · obtain rfl : i = nw := by omega
        have hil : ¬ (i : Int) < (i : Int) := by omega
        have ho9 := HO.out
        rw [List.take_of_length_le (by rw [HNw.out]; exact Nat.le_refl _)] at ho9
        have HJ : Hid (∀ W, W = wr → Calls Tryz.prog 80 #[.slice oo i oc] W fun e w' => e = .returned (.string (txt (joinT (ws.map (substL P Q))))) ∧ W = w') := fun W hW => by
          subst hW
          have hr := (CellsW.reads ho9.cells)
          rw [← ho9.len] at hr
          exact refJoin_big _ _ W hr (by rw [List.length_map]; omega) (fun y hy => by
            obtain ⟨z, hz, rfl⟩ := List.mem_map.1 hy
            exact HSl.out z hz)
        have HTe : Hid (Steps xb w wr) := HT5.out.trans ((below_wide (xb := xb) HB.out).steps (Nat.le_refl _))
        have HSe : Hid (RAt wr xb n4) := HS5.out.on HB.out
        obtain ⟨J, hJ⟩ : ∃ J, J = joinT (ws.map (substL P Q)) := ⟨_, rfl⟩
        rw [← hJ] at HJ HE
        have hsz : (txt J).size = J.length := txt_size _
        clear ho9 hJ HO HCl HSub HSl HB
        go_wp2_with fail
        refine (HJ.out _ rfl).mono ?_
        rintro e _ ⟨rfl, rfl⟩
        by_cases h4 : 4000 < J.length
        · have HF := Lib.hid (show r = .error 3 by rw [HE.out, fin_err n4 h4])
          have g1 : (4000 : Int) < (J.length : Int) := by omega
          clear h4
          go_wp2_with fail
          go_ret2
          exact post_err HF.out (by decide) HTe.out
        · have HF := Lib.hid (show r = .ok (n4, J) by rw [HE.out, fin_ok n4 (by omega)])
          have g1 : ¬ (4000 : Int) < (J.length : Int) := by omega
          clear h4
          go_wp2_with fail
          go_ret2
          exact post_ok HF.out HTe.out HSe.out HS4.out.2
end Go.Proofs.YtbngoodjgijmgaaGreatDoor

namespace Go.Proofs.YtbngoodjgijmgaaGreatDoor
open Go.RowKit Go.Shelf
attribute [local go_sem] Oper.semAt_some

def eachS (E : EnvT → BT → Nat → R) (v : EnvT) (name list body : BT) (n : Nat) : R := Rb (E v list n) fun m s => eachR (fun w j => stepR j fun j' => E (setT v (name, w, true)) body j') s m
theorem texts_from {f : BT → Nat → R} {ws acc : List BT} {n m i : Nat} {x : BT} {n2 : Nat} {t : BT} (h : textsR f ws m = Rb (textsR f (ws.drop i) n) fun k l => .ok (k, acc ++ l)) (hx : ws[i]? = some x) (ht : f x n = .ok (n2, t)) :
    textsR f ws m = Rb (textsR f (ws.drop (i + 1)) n2) fun k l => .ok (k, (acc ++ [t]) ++ l) := by
  obtain ⟨hi, rfl⟩ := List.getElem?_eq_some_iff.1 hx
  rw [h, List.drop_eq_getElem_cons hi]
  conv => lhs; unfold textsR
  rw [ht, Rb_ok, Rb_assoc]
  congr 1
  funext k l
  rw [Rb_ok, List.append_assoc]; rfl
theorem texts_fell {f : BT → Nat → R} {ws acc : List BT} {n m i : Nat} {x : BT} {e : Int} (h : textsR f ws m = Rb (textsR f (ws.drop i) n) fun k l => .ok (k, acc ++ l)) (hx : ws[i]? = some x) (ht : f x n = .error e) : textsR f ws m = .error e := by
  obtain ⟨hi, rfl⟩ := List.getElem?_eq_some_iff.1 hx
  rw [h, List.drop_eq_getElem_cons hi]
  conv => lhs; unfold textsR
  rw [ht]; rfl
theorem texts_done {f : BT → Nat → R} {ws acc : List BT} {n m i : Nat} (h : textsR f ws m = Rb (textsR f (ws.drop i) n) fun k l => .ok (k, acc ++ l)) (hi : ws.length ≤ i) : textsR f ws m = .ok (n, acc) := by
  rw [h, List.drop_eq_nil_of_le hi]
  show Rb (.ok (n, [])) _ = _
  rw [Rb_ok, List.append_nil]
/-- What the loop over the words keeps. -/
structure EachAt (xb B : Nat) (f : BT → Nat → R) (ws : List BT) (m0 i : Nat) (n : Nat) (acc : List BT) (o : Option Addr) (c : Nat) (w5 W : World) : Prop where
  back : Wide xb B w5 W
  steps : RAt W xb n
  few : n ≤ 2000
  own : OwnT W B (.slice o i c) acc
  len : acc.length = i
  small : ∀ x ∈ acc, x.length ≤ 4000
  law : textsR f ws m0 = Rb (textsR f (ws.drop i) n) fun k l => .ok (k, acc ++ l)
theorem EnvR.put {env : EnvT} {k : Nat} (h : EnvR env k) (hl : env.length + 1 + 10 * k ≤ 1000) {a t : BT} (ha : a.length ≤ 4000) (ht : t.length ≤ 4000) : EnvR (setT env (a, t, true)) k := by
  refine ⟨set_srt h.1, by have := (set_len env (a, t, true)).1; omega, fun x hx => ?_⟩
  rcases set_mem hx with rfl | hx
  · exact ⟨ha, ht⟩
  · exact h.2.2 x hx
/-- The document's Set, told in three values. -/
theorem rset_told {Q : Nat → Prop} {o : Option Addr} {m c : Nat} {env : EnvT} (a t : BT) {W : World} (h : EnvS W Q (.slice o m c) env) (hl : env.length ≤ 999999) (hs : SrtT env) :
    Calls Tryz.prog 22 #[.agg #[.slice o m c], .agg #[.string (txt a), .string (txt t), .bool true]] W fun e w' => ∃ o2 m2 c2, e = .returned (.agg #[.slice o2 m2 c2]) ∧ EnvS w' (fun b => W.heap.size ≤ b) (.slice o2 m2 c2) (setT env (a, t, true)) ∧ Later W w' := by
  refine (rset_any Q (.slice o m c) env (a, t, true) W h hl hs).mono ?_
  rintro e w' ⟨v', rfl, hE, hb⟩
  obtain ⟨o2, m2, c2, rfl⟩ := hE.slice
  exact ⟨o2, m2, c2, rfl, hE, hb⟩
set_option maxRecDepth 100000 in
set_option maxHeartbeats 8000000 in
theorem reach_any (k : Nat) (hX : RText k) (xb n d : Nat) (o : Option Addr) (m c : Nat) (env : EnvT) (name list body : BT) (w : World) (hd : d + k = 20) (h : AtR xb n w (.slice o m c) env) (hE : EnvR env k) (hl1 : env.length + 1 + 10 * k ≤ 1000)
    (hn : name.length ≤ 4000) (hl : list.length ≤ 4000) (hbd : body.length ≤ 4000) :
    Calls Tryz.prog 75 #[.pointer (some ⟨xb, 0, none⟩), .agg #[.slice o m c], .string (txt name), .string (txt list), .string (txt body), .int .i64 (d : Int)] w (PostR xb (eachS (textE k) env name list body n) w) := by
  have hx := h.steps.lt
  have HX : Hid (RTextAt k xb d o m c env w) := hX.at hd h hE
  have HP : Hid (∀ W, Steps xb (boxR w o m c) W → Steps xb w W ∧ W.cell? ⟨w.heap.size, 0, none⟩ = some (.slice o m c)) := fun W hT => boxed hx hT
  have HS0 : Hid (RAt (boxR w o m c) xb n ∧ n ≤ 2000) := ⟨h.steps.on (Later.self w _), h.few⟩
  have HT0 : Hid (Steps xb (boxR w o m c) (boxR w o m c)) := Turned.refl _ _
  have HSt : Hid (∀ v s n m t, textE k v s n = .ok (m, t) → t.length ≤ 4000) := fun v s n m t e => short_textE k v s n m t e
  have HEnv : Hid (∀ W, Steps xb w W → EnvS W (fun b => b ≠ xb) (.slice o m c) env) := fun W hT => h.env.turned hT (fun _ h1 h2 => h1 h2)
  have HX2 : Hid (∀ (x : BT) (n2 : Nat) (V V' : World) (o' : Option Addr) (m' c' : Nat), x.length ≤ 4000 → n2 ≤ 2000 → RAt V xb n2 → EnvS V' (fun b => V.heap.size ≤ b) (.slice o' m' c') (setT env (name, x, true)) → Later V V' →
      Calls Tryz.prog 24 #[.pointer (some ⟨xb, 0, none⟩), .agg #[.slice o' m' c'], .string (txt body), .int .i64 (d : Int)] V' (PostR xb (textE k (setT env (name, x, true)) body n2) V')) := fun x n2 V V' o' m' c' hxl hn2 hs2 hEn hb => by
    exact hX xb n2 d o' m' c' _ body V' hd ⟨hs2.on hb, hn2, hEn.wider (fun b _ hh => by have := hs2.lt; omega)⟩ (hE.put hl1 hn hxl) hbd
  have HSrt := Lib.hid hE.1
  have hlen9 : env.length ≤ 999999 := by omega
  obtain ⟨_, y0⟩ := HP.out _ HT0.out
  obtain ⟨r, hr⟩ : ∃ r, r = eachS (textE k) env name list body n := ⟨_, rfl⟩
  rw [← hr]
  unfold eachS at hr
  have HE0 := Lib.hid hr
  clear hr h hE hX hd hl1
  go_enter Tryz.func75, Tryz.ntmps75
  go_wp2_with fail
  refine (HX.out n list _ (HP.out _ HT0.out).1 HS0.out.1 HS0.out.2 hl).mono ?_
  rintro e w1 ⟨u1, c1, rfl, hT1, hR1⟩
  have HT1 : Hid (Steps xb (boxR w o m c) w1) := HT0.out.trans hT1
  obtain ⟨_, y1⟩ := HP.out _ HT1.out
  have HR1 := Lib.hid hR1
  clear hT1 hR1 y0 HX
  by_cases hc1 : c1 = 0
  case neg =>
    obtain ⟨hb1, rfl⟩ := HR1.out.bad hc1
    have e1 : (c1 != 0) = true := by rw [bne_iff_ne]; exact hc1
    have HF : Hid (r = .error c1) := by
      show _ = _
      rw [HE0.out, hb1]; rfl
    have HC := Lib.hid hc1
    clear hb1 hc1
    go_wp2_with fail
    go_ret2
    exact post_err HF.out HC.out (HP.out _ HT1.out).1
  subst hc1
  obtain ⟨n1, t1, hr1, hu1, hs1, hn1⟩ := HR1.out.good
  subst hu1
  have hl4 : t1.length ≤ 4000 := HSt.out _ _ _ _ _ hr1
  obtain ⟨f, hf⟩ : ∃ f : BT → Nat → R, f = fun w j => stepR j fun j' => textE k (setT env (name, w, true)) body j' := ⟨_, rfl⟩
  have HE1 : Hid (r = Rb (textsR f (wordsT t1) n1) fun m l => finR m (joinT l)) := by
    show _ = _
    rw [HE0.out, hr1, Rb_ok, hf]; rfl
  have HFs : Hid (∀ x j, j < 2000 → f x j = textE k (setT env (name, x, true)) body (j + 1)) := fun x j hj => by
    rw [hf]
    show stepR j _ = _
    unfold stepR; rw [if_neg (by omega)]
  have HFb : Hid (∀ x, f x 2000 = .error 12) := fun x => by
    rw [hf]
    show stepR 2000 _ = _
    unfold stepR; rw [if_pos (Nat.le_refl _)]
  have HWd := Lib.hid (rwords_txt t1 (by omega))
  have hwl : (wordsT t1).length ≤ 4001 := by have := words_few t1; omega
  have HWx : Hid (∀ x ∈ wordsT t1, x.length ≤ 4000) := fun x hx => by have := (words_memT hx).2; omega
  obtain ⟨ws, hws⟩ : ∃ ws, ws = wordsT t1 := ⟨_, rfl⟩
  rw [← hws] at hwl HE1 HWd HWx
  have HS1 := Lib.hid hs1
  clear hr1 hs1 HR1 HE0 hf hws
  go_wp2_with fail
  refine (HWd.out _).mono ?_
  rintro e w5 ⟨wo, wc, rfl, hcw, hb5⟩
  obtain ⟨nw, hnw⟩ : ∃ nw, nw = ws.length := ⟨_, rfl⟩
  rw [← hnw]
  have hnw4 : nw ≤ 4001 := by rw [hnw]; exact hwl
  have hs5 := HS1.out.on hb5
  have HCl := words_stay hcw hs5 hnw
  have HT5 : Hid (Steps xb (boxR w o m c) w5) := HT1.out.trans (Later.steps hb5 xb)
  have HNw := Lib.hid hnw
  have hbsz : w.heap.size < w5.heap.size := by have := HT5.out.size; simp at this; omega
  have HA0 : Hid (EachAt xb w5.heap.size f ws n1 0 n1 [] none 0 w5 w5) := ⟨Turned.refl _ _, hs5, hn1, OwnT.nil _ _, rfl, by simp, by
    rw [List.drop_zero]; exact (Rb_self _).symm⟩
  clear hcw hb5 hs5 HWd hnw y1
  go_wp2_with fail
  go_loopw [17, 18] (fun ov iv wr => ∃ (i n2 : Nat) (acc : List BT) (oo : Option Addr) (oc : Nat), i ≤ nw ∧ ov = .slice oo i oc ∧ iv = .int .i64 (i : Int) ∧ Hid (EachAt xb w5.heap.size f ws n1 i n2 acc oo oc w5 wr)) (fun _ iv _ => nw - (intOf iv).toNat)
  case atStart => exact ⟨0, n1, [], none, 0, Nat.zero_le _, rfl, rfl, HA0⟩
  case round =>
    obtain ⟨i, n2, acc, oo, oc, hi, rfl, rfl, HA⟩ := hrel
    clear HA0
    by_cases hlt : i < nw
    · obtain ⟨x, hx1⟩ : ∃ x, ws[i]? = some x := ⟨_, List.getElem?_eq_getElem (by rw [← HNw.out]; exact hlt)⟩
      have hil : (i : Int) < (nw : Int) := by omega
      have hi0 : (0 : Int) ≤ (i : Int) := by omega
      have hxl := HWx.out x (List.mem_of_getElem? hx1)
      obtain ⟨s0, s1⟩ := one_cell HA.out.steps
      have hput := HA.out.steps.put (n2 + 1)
      have hpt : Steps xb wr (wr.setCell ⟨xb, 0, none⟩ (.int .i64 ((n2 + 1 : Nat) : Int))) := Turned.setCell _ _ _ rfl
      rw [show ((n2 + 1 : Nat) : Int) = (n2 : Int) + 1 by push_cast; rfl] at hput hpt
      obtain ⟨p0, p1⟩ := one_cell hput
      have HPut : Hid (RAt (wr.setCell ⟨xb, 0, none⟩ (.int .i64 ((n2 : Int) + 1))) xb (n2 + 1)) := by
        have := hput
        unfold RAt
        push_cast
        exact this
      have HPt := Lib.hid hpt
      have hfew := HA.out.few
      have hw1 : IntKind.i64.wrap ((n2 : Int) + 1) = (n2 : Int) + 1 := by rw [IntKind.wrap_i64]; omega
      have HXk := Lib.hid hx1
      clear hput hpt hx1
      by_cases h2 : n2 = 2000
      · have HF : Hid (r = .error 12) := by
          show _ = _
          have hfe := HFb.out x
          rw [← h2] at hfe
          rw [HE1.out, texts_fell HA.out.law HXk.out hfe]; rfl
        have g1 : (2000 : Int) < (n2 : Int) + 1 := by omega
        have HTe : Hid (Steps xb w (wr.setCell ⟨xb, 0, none⟩ (.int .i64 ((n2 : Int) + 1)))) := ((HP.out _ HT5.out).1.trans (Wide.steps (HA.out.back.trans HPt.out.wide) (Nat.le_refl _)))
        clear h2 HCl HX2
        go_wp2_with fail
        go_ret2
        exact post_err HF.out (by decide) HTe.out
      · have g1 : ¬ (2000 : Int) < (n2 : Int) + 1 := by omega
        have HFx := Lib.hid (HFs.out x n2 (by omega))
        generalize hV : wr.setCell ⟨xb, 0, none⟩ (.int .i64 ((n2 : Int) + 1)) = V at p0 p1 HPut HPt
        have HVe := Lib.hid hV
        have HWV : Hid (Wide xb w5.heap.size w5 V) := HA.out.back.trans HPt.out.wide
        obtain ⟨b, f9, rfl, hnc, hcell⟩ := HCl.out V HWV.out i x HXk.out
        have HCx : Hid (∀ W, Wide xb w5.heap.size w5 W → W.cell? ⟨b, f9 + i, none⟩ = some (.string (txt x))) := fun W hW => by
          obtain ⟨b', f', e, _, hc⟩ := HCl.out W hW i x HXk.out
          cases e; exact hc
        have HBx : Hid (∀ W, Wide xb w5.heap.size w5 W → W.cell? ⟨w.heap.size, 0, none⟩ = some (.slice o m c)) := fun W hW => by
          have h5 := (HP.out _ HT5.out).2
          rw [← h5]
          unfold World.cell?
          rw [hW.block w.heap.size hbsz (by rintro (h | h) <;> omega)]
        have hbox := HBx.out V HWV.out
        have hword := HCx.out V HWV.out
        have HTV : Hid (Steps xb w V) := (HP.out _ HT5.out).1.trans (HWV.out.steps (Nat.le_refl _))
        have HSet : Hid (∀ W, Steps xb w W → Calls Tryz.prog 22 #[.agg #[.slice o m c], .agg #[.string (txt name), .string (txt x), .bool true]] W fun e w' => ∃ o2 m2 c2, e = .returned (.agg #[.slice o2 m2 c2]) ∧ EnvS w' (fun b => W.heap.size ≤ b) (.slice o2 m2 c2) (setT env (name, x, true)) ∧ Later W w') := fun W hW => rset_told name x (HEnv.out W hW) hlen9 HSrt.out
        have HXx : Hid (∀ (V' : World) (o' : Option Addr) (m' c' : Nat), EnvS V' (fun b => V.heap.size ≤ b) (.slice o' m' c') (setT env (name, x, true)) → Later V V' → Calls Tryz.prog 24 #[.pointer (some ⟨xb, 0, none⟩), .agg #[.slice o' m' c'], .string (txt body), .int .i64 (d : Int)] V' (PostR xb (f x n2) V')) := fun V' o' m' c' hEn hb => by
          rw [HFx.out]
          exact HX2.out x (n2 + 1) V V' o' m' c' hxl (by omega) HPut.out hEn hb
        have HShx : Hid (∀ m2 t, f x n2 = .ok (m2, t) → t.length ≤ 4000) := fun m2 t e => by rw [HFx.out] at e; exact HSt.out _ _ _ _ _ e
        clear h2 HX2 hcell hV
        go_wp2_with fail
        rw [HVe.out]
        go_wp2_with fail
        go_region_held3 (fun w' => w'.cell? ⟨w.heap.size, 0, none⟩ = some (.slice o m c) ∧ w'.cell? ⟨b, f9 + i, none⟩ = some (.string (txt x)))
          (first | (go_keep; done))
          (first
            | (go_at_call 22; (first | refine (HSet.out _ (HTV.out.trans (Turned.drew _ _))).mono ?_ | refine (HSet.out _ HTV.out).mono ?_); rintro e w6 ⟨o6, m6, c6, rfl, hE6, hb6⟩; have HB6 : Hid (Later V w6) := (by first | exact (show Later V V.drew from (Below.refl _ _).drew).trans hb6 | exact hb6); have HE6 : Hid (EnvS w6 (fun b => V.heap.size ≤ b) (.slice o6 m6 c6) (setT env (name, x, true))) := hE6; clear hE6 hb6; have j1 := HBx.out w6 (HWV.out.trans (below_wide (HB6.out.mono HWV.out.size))); have j2 := HCx.out w6 (HWV.out.trans (below_wide (HB6.out.mono HWV.out.size))))
            | (go_at_call 24; (first | refine (HXx.out _ _ _ _ (show EnvS (World.drew _) _ _ _ from HE6.out) HB6.out.drew).mono ?_ | refine (HXx.out _ _ _ _ HE6.out HB6.out).mono ?_); rintro e w7 ⟨u7, c7, rfl, hT7, hR7⟩; have HT7 : Hid (Steps xb w6 w7) := (by first | exact (Turned.drew _ _).trans hT7 | exact hT7); have HR7 := Lib.hid hR7; clear hT7 hR7; have i1 := HBx.out w7 ((HWV.out.trans (below_wide (HB6.out.mono HWV.out.size))).trans HT7.out.wide); have i2 := HCx.out w7 ((HWV.out.trans (below_wide (HB6.out.mono HWV.out.size))).trans HT7.out.wide)))
        have HW7 : Hid (Wide xb w5.heap.size w5 w7) := (HWV.out.trans (below_wide (HB6.out.mono HWV.out.size))).trans HT7.out.wide
        have HTe : Hid (Steps xb w w7) := (HP.out _ HT5.out).1.trans (HW7.out.steps (Nat.le_refl _))
        by_cases hc7 : c7 = 0
        · subst hc7
          obtain ⟨n7, t7, hr7, hu7, hs7, hn7⟩ := HR7.out.good
          subst hu7
          have hsm7 := HShx.out n7 t7 hr7
          have hown : OwnT w7 w5.heap.size (.slice oo i oc) acc := (HA.out.own.turned HPt.out (fun b hb h => by have := (HP.out _ HT5.out).1.size; omega)).turned ((Later.steps HB6.out xb).trans HT7.out) (fun b hb h => by have := (HP.out _ HT5.out).1.size; omega)
          obtain ⟨o8, m8, c8, w8, hrun, hown8, hb8⟩ := run_append_told w5.heap.size (.slice oo i oc) acc t7 hown (by rw [HA.out.len]; omega) HW7.out.size 99
          have hm8 := hown8.len
          rw [List.length_append, HA.out.len] at hm8
          have hm9 : m8 = i + 1 := hm8
          subst hm9
          have HN : Hid (EachAt xb w5.heap.size f ws n1 (i + 1) n7 (acc ++ [t7]) o8 c8 w5 w8) := ⟨HW7.out.trans (below_wide hb8), (hs7.kept (below_wide (xb := xb + w5.heap.size + 1) hb8) (by have := (HP.out _ HT5.out).1.size; rintro (h | h) <;> omega)), hn7, hown8, by rw [List.length_append, HA.out.len]; rfl, fun y hy => by
            rcases List.mem_append.1 hy with hy | hy
            · exact HA.out.small y hy
            · rw [List.mem_singleton.1 hy]; exact hsm7, texts_from HA.out.law HXk.out hr7⟩
          clear hr7 hs7 hown hown8 hb8 hm8 HR7 HShx HXx HSet
          go_wp2_with (at_builtin; refine wpList_append_eq rfl _ _ 99 rfl _ _ _ w8 rfl rfl hrun ?_)
          go_roundw
          case rel => exact ⟨i + 1, n7, acc ++ [t7], o8, c8, hlt, rfl, by go_num, HN⟩
          case measure => simp [intOf]; omega
        · obtain ⟨hr7, rfl⟩ := HR7.out.bad hc7
          have HF : Hid (r = .error c7) := by
            show _ = _
            rw [HE1.out, texts_fell HA.out.law HXk.out hr7]; rfl
          have e5 : (c7 != 0) = true := by rw [bne_iff_ne]; exact hc7
          have HC := Lib.hid hc7
          clear hr7 hc7 HR7 HShx HXx HSet
          go_wp2_with fail
          go_ret2
          exact post_err HF.out HC.out HTe.out
    · obtain rfl : i = nw := by omega
      have hil : ¬ (i : Int) < (i : Int) := by omega
      have hdn := texts_done HA.out.law (by rw [HNw.out]; exact Nat.le_refl _)
      have HJ : Hid (∀ W, W = wr → Calls Tryz.prog 80 #[.slice oo i oc] W fun e w' => e = .returned (.string (txt (joinT acc))) ∧ W = w') := fun W hW => by
        subst hW
        have hr := (CellsW.reads HA.out.own.cells)
        rw [← HA.out.own.len] at hr
        exact refJoin_big _ _ W hr (by rw [HA.out.len]; omega) (fun y hy => by have := HA.out.small y hy; omega)
      have HTe : Hid (Steps xb w wr) := (HP.out _ HT5.out).1.trans (HA.out.back.steps (Nat.le_refl _))
      have HSe : Hid (RAt wr xb n2 ∧ n2 ≤ 2000) := ⟨HA.out.steps, HA.out.few⟩
      have HE2 : Hid (r = finR n2 (joinT acc)) := by
        show _ = _
        rw [HE1.out, hdn, Rb_ok]
      obtain ⟨J, hJ⟩ : ∃ J, J = joinT acc := ⟨_, rfl⟩
      rw [← hJ] at HJ HE2
      have hsz : (txt J).size = J.length := txt_size _
      clear hdn hJ HCl HX2 HA
      go_wp2_with fail
      refine (HJ.out _ rfl).mono ?_
      rintro e _ ⟨rfl, rfl⟩
      by_cases h4 : 4000 < J.length
      · have HF := Lib.hid (show r = .error 3 by rw [HE2.out, fin_err n2 h4])
        have g1 : (4000 : Int) < (J.length : Int) := by omega
        clear h4
        go_wp2_with fail
        go_ret2
        exact post_err HF.out (by decide) HTe.out
      · have HF := Lib.hid (show r = .ok (n2, J) by rw [HE2.out, fin_ok n2 (by omega)])
        have g1 : ¬ (4000 : Int) < (J.length : Int) := by omega
        clear h4
        go_wp2_with fail
        go_ret2
        exact post_ok HF.out HTe.out HSe.out.1 HSe.out.2
end Go.Proofs.YtbngoodjgijmgaaGreatDoor

namespace Go.Proofs.YtbngoodjgijmgaaGreatDoor
open Go.RowKit Go.Shelf
attribute [local go_sem] Oper.semAt_some

/-! ### the model's own, with the first argument ahead -/
theorem texts_head (E : BT → Nat → R) (a : BT) (r : List BT) (n : Nat) : textsR E (a :: r) n = Rb (E a n) fun m t => Rb (textsR E r m) fun k l => .ok (k, t :: l) := rfl
theorem for_is (E : EnvT → BT → Nat → R) (v : EnvT) (a0 a1 a2 : BT) (n : Nat) : forR E v [a0, a1, a2] n = Rb (E v a0 n) fun m t => eachS E v (trimOf t) a1 a2 m := by
  unfold forR eachS
  show Rb (textsR (E v) [a0, a1] n) _ = _
  rw [texts_head, Rb_assoc]; congr 1; funext m t
  rw [texts_head, Rb_assoc, Rb_assoc]; rfl
theorem call_err {w : BT} {l : List BT} (h : (callT w l).2 ≠ 0) : (callT w l).1 = [] := by
  have key : ∀ x : Option BT, (finT x).2 ≠ 0 → (finT x).1 = [] := fun x hx => by
    cases x with
    | none => rfl
    | some s =>
      unfold finT at hx ⊢
      simp only at hx ⊢
      by_cases h4 : s.length ≤ 4000
      · rw [if_pos h4] at hx; exact absurd rfl hx
      · rw [if_neg h4]
  unfold callT at h ⊢
  by_cases h1 : manyOf w = 0
  · rw [if_pos h1]
  · rw [if_neg h1] at h ⊢
    by_cases h2 : (l.length : Int) = manyOf w
    · rw [if_pos h2] at h ⊢; exact key _ h
    · rw [if_neg h2]
/-- The arguments, as long as only the steps, and what came behind them, are turned. -/
def ArgsS (xb : Nat) (ao : Option Addr) (an ac : Nat) (args : List BT) (w : World) : Prop := ∀ W, Wide xb w.heap.size w W → ∀ k x, args[k]? = some x → ∃ b f, ao = some ⟨b, f, none⟩ ∧ an ≤ ac ∧ W.cell? ⟨b, f + k, none⟩ = some (.string (txt x))
theorem rtrim_told (s : BT) (hs : s.length ≤ 100000) (w : World) : Calls Tryz.prog 74 #[.string (txt s)] w fun e w' => e = .returned (.string (txt (trimOf s))) ∧ w = w' := by
  have := refTrim_any (txt s) (by rw [txt_size]; unfold maxLen; omega) w
  rw [txt_data] at this
  exact this
theorem boxed_wide {w W : World} {o : Option Addr} {m c xb : Nat} (_hx : xb < w.heap.size) (hT : Steps xb (boxR w o m c) W) : Wide xb w.heap.size w W := Steps.wide ((Later.steps (Later.self w _) xb).trans hT)
set_option maxRecDepth 100000 in
set_option maxHeartbeats 8000000 in
theorem rfun_if (k : Nat) (hX : RText k) (xb n d : Nat) (o : Option Addr) (m c : Nat) (env : EnvT) (ao : Option Addr) (an ac : Nat) (args : List BT) (nm : BT) (w : World) (hd : d + k = 20) (h : AtR xb n w (.slice o m c) env) (hE : EnvR env k) (_hl1 : env.length + 10 + 10 * k ≤ 1000)
    (han : an = args.length) (hs : ∀ x ∈ args, x.length ≤ 4000) (hr : CellsW w ao ac args) (hnm : nm = nIf) (h2 : 2 ≤ an) (h3 : an ≤ 3) :
    Calls Tryz.prog 55 #[.pointer (some ⟨xb, 0, none⟩), .agg #[.slice o m c], .string (txt nm), .slice ao an ac, .int .i64 (d : Int)] w (PostR xb (funB (textE k) env nm args n) w) := by
  have hx := h.steps.lt
  have HX : Hid (RTextAt k xb d o m c env w) := hX.at hd h hE
  have HP : Hid (∀ W, Steps xb (boxR w o m c) W → Steps xb w W ∧ W.cell? ⟨w.heap.size, 0, none⟩ = some (.slice o m c)) := fun W hT => boxed hx hT
  have HAr : Hid (∀ W, Steps xb (boxR w o m c) W → ∀ k x, args[k]? = some x → ∃ b f, ao = some ⟨b, f, none⟩ ∧ an ≤ ac ∧ W.cell? ⟨b, f + k, none⟩ = some (.string (txt x))) := fun W hT => (words_stay hr h.steps han).out W (boxed_wide hx hT)
  have HS0 : Hid (RAt (boxR w o m c) xb n ∧ n ≤ 2000) := ⟨h.steps.on (Later.self w _), h.few⟩
  have HT0 : Hid (Steps xb (boxR w o m c) (boxR w o m c)) := Turned.refl _ _
  have HSt : Hid (∀ v s n m t, textE k v s n = .ok (m, t) → t.length ≤ 4000) := fun v s n m t e => short_textE k v s n m t e
  obtain ⟨a0, a1, rest, rfl⟩ : ∃ a0 a1 rest, args = a0 :: a1 :: rest := by
    rcases args with _ | ⟨a0, _ | ⟨a1, rest⟩⟩
    · simp at han; omega
    · simp at han; omega
    · exact ⟨_, _, _, rfl⟩
  have q1 : ((txt nm).toList == [105, 102]) = true := by rw [hnm, txt_toL]; rfl
  have hlt0 : (0 : Int) < (an : Int) := by omega
  have hlt1 : (1 : Int) < (an : Int) := by omega
  have hlt0' : 0 < an := by omega
  have hlt1' : 1 < an := by omega
  obtain ⟨r, hr0⟩ : ∃ r, r = funB (textE k) env nm (a0 :: a1 :: rest) n := ⟨_, rfl⟩
  rw [← hr0]
  have HE0 : Hid (r = Rb (textE k env a0 n) fun m t => if trimOf t ≠ [] then textE k env a1 m else if (a0 :: a1 :: rest).length < 3 then .ok (m, []) else textE k env (rest.getD 0 []) m) := by
    show _ = _
    rw [hr0]
    unfold funB
    rw [if_pos hnm]; rfl
  have HAn := Lib.hid han
  clear hr0 hnm hr h hE hX hd _hl1 han
  obtain ⟨b, f, rfl, hnc, y1⟩ := HAr.out _ HT0.out 0 a0 rfl
  rw [Nat.add_zero] at y1
  have HA0 : Hid (∀ W, Steps xb (boxR w o m c) W → W.cell? ⟨b, f, none⟩ = some (.string (txt a0))) := fun W hT => by
    obtain ⟨b', f', e, _, hc⟩ := HAr.out W hT 0 a0 rfl
    cases e; exact hc
  obtain ⟨_, y0⟩ := HP.out _ HT0.out
  have hs0 : a0.length ≤ 4000 := hs _ (by simp)
  have HSz := Lib.hid hs
  clear hs
  go_enter Tryz.func55, Tryz.ntmps55
  go_wp2_with fail
  go_region_held3 (fun w' => w'.cell? ⟨w.heap.size, 0, none⟩ = some (.slice o m c) ∧ w'.cell? ⟨b, f, none⟩ = some (.string (txt a0)))
    (first | (go_keep; done))
    (first | (go_at_call 24; (first | refine (HX.out n a0 _ ((HP.out _ HT0.out).1.trans (Turned.drew _ _)) HS0.out.1 HS0.out.2 hs0).mono ?_ | refine (HX.out n a0 _ (HP.out _ HT0.out).1 HS0.out.1 HS0.out.2 hs0).mono ?_); rintro e w1 ⟨u1, c1, rfl, hT1, hR1⟩; have HT1 : Hid (Steps xb (boxR w o m c) w1) := (by first | exact (Turned.drew _ _).trans hT1 | exact hT1); have HR1 := Lib.hid hR1; clear hT1 hR1; obtain ⟨_, k0⟩ := HP.out _ HT1.out; have k1 := HA0.out _ HT1.out))
  by_cases hc1 : c1 = 0
  case neg =>
    obtain ⟨hb1, rfl⟩ := HR1.out.bad hc1
    have e1 : (c1 != 0) = true := by rw [bne_iff_ne]; exact hc1
    have HF : Hid (r = .error c1) := by
      show _ = _
      rw [HE0.out, hb1]; rfl
    have HC := Lib.hid hc1
    clear hb1 hc1
    go_wp2_with fail
    go_ret2
    exact post_err HF.out HC.out (HP.out _ HT1.out).1
  subst hc1
  obtain ⟨n1, t1, hr1, hu1, hs1, hn1⟩ := HR1.out.good
  subst hu1
  have hl4 : t1.length ≤ 4000 := HSt.out _ _ _ _ _ hr1
  have HS1 : Hid (RAt w1 xb n1 ∧ n1 ≤ 2000) := ⟨hs1, hn1⟩
  have HE1 := Lib.hid (show r = _ by rw [HE0.out, hr1, Rb_ok])
  have HTr := Lib.hid (rtrim_told t1 (by omega))
  clear hr1 hs1 hn1 HR1 HE0
  by_cases ht : trimOf t1 = []
  · have e5 : (txt (trimOf t1)).toList.isEmpty = true := by rw [ht, txt_toL]; rfl
    rw [if_neg (by simpa using ht)] at HE1
    rcases rest with _ | ⟨a2, rest2⟩
    · have hr2 : an = 2 := by simpa using HAn.out
      have HF : Hid (r = .ok (n1, [])) := by
        show _ = _
        rw [HE1.out]; rfl
      have g1 : ((an : Int) == 3) = false := by rw [hr2]; rfl
      clear ht HE1 hr2
      go_wp2_with fail
      refine (HTr.out _).mono ?_
      rintro e _ ⟨rfl, rfl⟩
      go_wp2_with fail
      go_ret2
      exact post_ok (t := []) HF.out (HP.out _ HT1.out).1 HS1.out.1 HS1.out.2
    · have hr2 : an = 3 := by have := HAn.out; simp at this; omega
      have HE2 : Hid (r = textE k env a2 n1) := by
        show _ = _
        rw [HE1.out, if_neg (by simp)]; rfl
      have g1 : ((an : Int) == 3) = true := by rw [hr2]; rfl
      have hlt2 : (2 : Int) < (an : Int) := by omega
      have hlt2' : 2 < an := by omega
      have hsa : a2.length ≤ 4000 := HSz.out a2 (by simp)
      have HAi : Hid (∀ W, Steps xb (boxR w o m c) W → W.cell? ⟨b, f + 2, none⟩ = some (.string (txt a2))) := fun W hT => by
        obtain ⟨b', f', e, _, hc⟩ := HAr.out W hT 2 a2 rfl
        cases e; exact hc
      have k2 := HAi.out _ HT1.out
      clear ht HE1 hr2
      go_wp2_with fail
      refine (HTr.out _).mono ?_
      rintro e _ ⟨rfl, rfl⟩
      go_wp2_with fail
      go_region_held3 (fun w' => w'.cell? ⟨w.heap.size, 0, none⟩ = some (.slice o m c) ∧ w'.cell? ⟨b, f + 2, none⟩ = some (.string (txt a2)))
        (first | (go_keep; done))
        (first | (go_at_call 24; (first | refine (HX.out n1 a2 _ ((HP.out _ HT1.out).1.trans (Turned.drew _ _)) HS1.out.1 HS1.out.2 hsa).mono ?_ | refine (HX.out n1 a2 _ (HP.out _ HT1.out).1 HS1.out.1 HS1.out.2 hsa).mono ?_); rintro e w2 ⟨u2, c2, rfl, hT2, hR2⟩; have HT2 : Hid (Steps xb w1 w2) := (by first | exact (Turned.drew _ _).trans hT2 | exact hT2); have HR2 := Lib.hid hR2; clear hT2 hR2; obtain ⟨_, j0⟩ := HP.out _ (HT1.out.trans HT2.out); have j1 := HAi.out _ (HT1.out.trans HT2.out)))
      go_wp2_with fail
      go_ret2
      exact HR2.out.told HE2.out ((HP.out _ HT1.out).1.trans HT2.out)
  · have e5 : (txt (trimOf t1)).toList.isEmpty = false := by rw [txt_toL]; simpa using ht
    have HE2 : Hid (r = textE k env a1 n1) := by
      show _ = _
      rw [HE1.out, if_pos ht]
    have hsa : a1.length ≤ 4000 := HSz.out a1 (by simp)
    have HAi : Hid (∀ W, Steps xb (boxR w o m c) W → W.cell? ⟨b, f + 1, none⟩ = some (.string (txt a1))) := fun W hT => by
      obtain ⟨b', f', e, _, hc⟩ := HAr.out W hT 1 a1 rfl
      cases e; exact hc
    have k2 := HAi.out _ HT1.out
    clear ht HE1
    go_wp2_with fail
    refine (HTr.out _).mono ?_
    rintro e _ ⟨rfl, rfl⟩
    go_wp2_with fail
    go_region_held3 (fun w' => w'.cell? ⟨w.heap.size, 0, none⟩ = some (.slice o m c) ∧ w'.cell? ⟨b, f + 1, none⟩ = some (.string (txt a1)))
      (first | (go_keep; done))
      (first | (go_at_call 24; (first | refine (HX.out n1 a1 _ ((HP.out _ HT1.out).1.trans (Turned.drew _ _)) HS1.out.1 HS1.out.2 hsa).mono ?_ | refine (HX.out n1 a1 _ (HP.out _ HT1.out).1 HS1.out.1 HS1.out.2 hsa).mono ?_); rintro e w2 ⟨u2, c2, rfl, hT2, hR2⟩; have HT2 : Hid (Steps xb w1 w2) := (by first | exact (Turned.drew _ _).trans hT2 | exact hT2); have HR2 := Lib.hid hR2; clear hT2 hR2; obtain ⟨_, j0⟩ := HP.out _ (HT1.out.trans HT2.out); have j1 := HAi.out _ (HT1.out.trans HT2.out)))
    go_wp2_with fail
    go_ret2
    exact HR2.out.told HE2.out ((HP.out _ HT1.out).1.trans HT2.out)
set_option maxRecDepth 100000 in
set_option maxHeartbeats 8000000 in
theorem rfun_each (k : Nat) (hX : RText k) (xb n d : Nat) (o : Option Addr) (m c : Nat) (env : EnvT) (ao : Option Addr) (an ac : Nat) (args : List BT) (nm : BT) (w : World) (hd : d + k = 20) (h : AtR xb n w (.slice o m c) env) (hE : EnvR env k) (hl1 : env.length + 10 + 10 * k ≤ 1000)
    (han : an = args.length) (hs : ∀ x ∈ args, x.length ≤ 4000) (hr : CellsW w ao ac args) (hnm : nm = nForeach) (h3 : an = 3) :
    Calls Tryz.prog 55 #[.pointer (some ⟨xb, 0, none⟩), .agg #[.slice o m c], .string (txt nm), .slice ao an ac, .int .i64 (d : Int)] w (PostR xb (funB (textE k) env nm args n) w) := by
  have hx := h.steps.lt
  have HX : Hid (RTextAt k xb d o m c env w) := hX.at hd h hE
  have HP : Hid (∀ W, Steps xb (boxR w o m c) W → Steps xb w W ∧ W.cell? ⟨w.heap.size, 0, none⟩ = some (.slice o m c)) := fun W hT => boxed hx hT
  have HAr : Hid (∀ W, Steps xb (boxR w o m c) W → ∀ k x, args[k]? = some x → ∃ b f, ao = some ⟨b, f, none⟩ ∧ an ≤ ac ∧ W.cell? ⟨b, f + k, none⟩ = some (.string (txt x))) := fun W hT => (words_stay hr h.steps han).out W (boxed_wide hx hT)
  have HS0 : Hid (RAt (boxR w o m c) xb n ∧ n ≤ 2000) := ⟨h.steps.on (Later.self w _), h.few⟩
  have HT0 : Hid (Steps xb (boxR w o m c) (boxR w o m c)) := Turned.refl _ _
  have HSt : Hid (∀ v s n m t, textE k v s n = .ok (m, t) → t.length ≤ 4000) := fun v s n m t e => short_textE k v s n m t e
  obtain ⟨a0, a1, a2, rfl⟩ : ∃ a0 a1 a2, args = [a0, a1, a2] := by
    rcases args with _ | ⟨a0, _ | ⟨a1, _ | ⟨a2, _ | ⟨a3, rest⟩⟩⟩⟩
    · simp at han; omega
    · simp at han; omega
    · simp at han; omega
    · exact ⟨_, _, _, rfl⟩
    · simp at han; omega
  have q1 : ((txt nm).toList == [105, 102]) = false := by rw [hnm, txt_toL]; rfl
  have q2 : ((txt nm).toList == [102, 111, 114, 101, 97, 99, 104]) = true := by rw [hnm, txt_toL]; rfl
  have hlt0 : (0 : Int) < (an : Int) := by omega
  have hlt1 : (1 : Int) < (an : Int) := by omega
  have hlt2 : (2 : Int) < (an : Int) := by omega
  have hlt0' : 0 < an := by omega
  have hlt1' : 1 < an := by omega
  have hlt2' : 2 < an := by omega
  obtain ⟨r, hr0⟩ : ∃ r, r = funB (textE k) env nm [a0, a1, a2] n := ⟨_, rfl⟩
  rw [← hr0]
  have HE0 : Hid (r = Rb (textE k env a0 n) fun m t => eachS (textE k) env (trimOf t) a1 a2 m) := by
    show _ = _
    rw [hr0, ← for_is]
    unfold funB
    rw [hnm, if_neg (by decide), if_pos rfl]
  have HEa : Hid (∀ (t : BT) (n2 : Nat) (W : World), Steps xb w W → RAt W xb n2 → n2 ≤ 2000 → t.length ≤ 4000 → a1.length ≤ 4000 → a2.length ≤ 4000 → Calls Tryz.prog 75 #[.pointer (some ⟨xb, 0, none⟩), .agg #[.slice o m c], .string (txt (trimOf t)), .string (txt a1), .string (txt a2), .int .i64 (d : Int)] W (PostR xb (eachS (textE k) env (trimOf t) a1 a2 n2) W)) := fun t n2 W hT hS hn ht h1 h2 =>
    reach_any k hX xb n2 d o m c env (trimOf t) a1 a2 W hd (h.turned hT hS hn) hE (by omega) (by have := trim_len t; omega) h1 h2
  clear hr0 hnm hr h hE hX hd hl1 h3 han
  obtain ⟨b, f, rfl, hnc, y1⟩ := HAr.out _ HT0.out 0 a0 rfl
  rw [Nat.add_zero] at y1
  have HA0 : Hid (∀ W, Steps xb (boxR w o m c) W → W.cell? ⟨b, f, none⟩ = some (.string (txt a0))) := fun W hT => by
    obtain ⟨b', f', e, _, hc⟩ := HAr.out W hT 0 a0 rfl
    cases e; exact hc
  obtain ⟨_, y0⟩ := HP.out _ HT0.out
  have hs0 : a0.length ≤ 4000 := hs _ (by simp)
  have HSz := Lib.hid hs
  clear hs
  go_enter Tryz.func55, Tryz.ntmps55
  go_wp2_with fail
  go_region_held3 (fun w' => w'.cell? ⟨w.heap.size, 0, none⟩ = some (.slice o m c) ∧ w'.cell? ⟨b, f, none⟩ = some (.string (txt a0)))
    (first | (go_keep; done))
    (first | (go_at_call 24; (first | refine (HX.out n a0 _ ((HP.out _ HT0.out).1.trans (Turned.drew _ _)) HS0.out.1 HS0.out.2 hs0).mono ?_ | refine (HX.out n a0 _ (HP.out _ HT0.out).1 HS0.out.1 HS0.out.2 hs0).mono ?_); rintro e w1 ⟨u1, c1, rfl, hT1, hR1⟩; have HT1 : Hid (Steps xb (boxR w o m c) w1) := (by first | exact (Turned.drew _ _).trans hT1 | exact hT1); have HR1 := Lib.hid hR1; clear hT1 hR1; obtain ⟨_, k0⟩ := HP.out _ HT1.out; have k1 := HA0.out _ HT1.out))
  by_cases hc1 : c1 = 0
  case neg =>
    obtain ⟨hb1, rfl⟩ := HR1.out.bad hc1
    have e1 : (c1 != 0) = true := by rw [bne_iff_ne]; exact hc1
    have HF : Hid (r = .error c1) := by
      show _ = _
      rw [HE0.out, hb1]; rfl
    have HC := Lib.hid hc1
    clear hb1 hc1
    go_wp2_with fail
    go_ret2
    exact post_err HF.out HC.out (HP.out _ HT1.out).1
  subst hc1
  obtain ⟨n1, t1, hr1, hu1, hs1, hn1⟩ := HR1.out.good
  subst hu1
  have hl4 : t1.length ≤ 4000 := HSt.out _ _ _ _ _ hr1
  have HS1 : Hid (RAt w1 xb n1 ∧ n1 ≤ 2000) := ⟨hs1, hn1⟩
  have HE1 := Lib.hid (show r = _ by rw [HE0.out, hr1, Rb_ok])
  have HTr := Lib.hid (rtrim_told t1 (by omega))
  clear hr1 hs1 hn1 HR1 HE0
  have hsa1 : a1.length ≤ 4000 := HSz.out a1 (by simp)
  have hsa2 : a2.length ≤ 4000 := HSz.out a2 (by simp)
  have HA12 : Hid (∀ W, Steps xb (boxR w o m c) W → W.cell? ⟨b, f + 1, none⟩ = some (.string (txt a1)) ∧ W.cell? ⟨b, f + 2, none⟩ = some (.string (txt a2))) := fun W hT => by
    obtain ⟨b', f', e, _, hc⟩ := HAr.out W hT 1 a1 rfl
    cases e
    obtain ⟨b2, f2, e, _, hc2⟩ := HAr.out W hT 2 a2 rfl
    cases e
    exact ⟨hc, hc2⟩
  obtain ⟨k2, k3⟩ := HA12.out _ HT1.out
  go_wp2_with fail
  go_region_held3 (fun w' => w'.cell? ⟨w.heap.size, 0, none⟩ = some (.slice o m c) ∧ w'.cell? ⟨b, f + 1, none⟩ = some (.string (txt a1)) ∧ w'.cell? ⟨b, f + 2, none⟩ = some (.string (txt a2)))
    (first | (go_keep; done))
    (first
      | (go_at_call 74; refine (HTr.out _).mono ?_; rintro e _ ⟨rfl, rfl⟩)
      | (go_at_call 75; (first | refine (HEa.out t1 n1 _ ((HP.out _ HT1.out).1.trans (Turned.drew _ _)) HS1.out.1 HS1.out.2 hl4 hsa1 hsa2).mono ?_ | refine (HEa.out t1 n1 _ (HP.out _ HT1.out).1 HS1.out.1 HS1.out.2 hl4 hsa1 hsa2).mono ?_); rintro e w2 ⟨u2, c2, rfl, hT2, hR2⟩; have HT2 : Hid (Steps xb w1 w2) := (by first | exact (Turned.drew _ _).trans hT2 | exact hT2); have HR2 := Lib.hid hR2; clear hT2 hR2; obtain ⟨_, j0⟩ := HP.out _ (HT1.out.trans HT2.out); obtain ⟨j1, j2⟩ := HA12.out _ (HT1.out.trans HT2.out)))
  go_wp2_with fail
  go_ret2
  exact HR2.out.told HE1.out ((HP.out _ HT1.out).1.trans HT2.out)
end Go.Proofs.YtbngoodjgijmgaaGreatDoor
