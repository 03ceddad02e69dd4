/-
  Carried over from another seat of ours (KY).
  Carried over from another seat of ours (KZ).
-/
import Derived.Test.YtmohehfkbhllpaaGreatKW
import Derived.Test.YtmohehfkbhllpaaGreatKN
import Derived.Test.YtmohehfkbhllpaaGreatQS
set_option linter.unusedVariables false
set_option linter.unusedSimpArgs false
namespace Go.Proofs.YtmohehfkbhllpaaGreat
open Go.RowKit Go.Maps
variable {Z F F0 : Nat → Prop} {W0 : World} {b tb R X : Nat} {r : Except Int Tm}

/-- What holds at each label, and how much is left to do at most. -/
def Jw (r : Except Int Tm) (Z F0 : Nat → Prop) (W0 : World) (b tb R X : Nat) : Nat → Nat → Act → World → Prop
  | 0, k, a, w => ∃ F n m l ov ns B, Jc Z F0 W0 b tb R X F n m l ov ns B a w ∧ Gdn ns ∧ l.length ≤ n ∧ Hid (r = beg ns m n l) ∧ m.length * 1000 + ns.length * 10 + 1 ≤ k
  | 1, k, a, w => ∃ F n m l ov ns B tk tn tx ty ts ta tc td ok, Jc Z F0 W0 b tb R X F n m l ov ns B a w ∧ Gdn ns ∧ l.length ≤ n ∧ Bx w X tk tn tx ty ts ta tc td nl nl ∧
      (∀ w, Calls Tryz.prog 19 #[lf tk tn tx ty ts ta tc td] w fun e w' => e = .returned (.int .i64 (if ok = true then 0 else 24)) ∧ Gr (fun _ => False) w w') ∧
      Hid (r = if ok = true then fin7 ns (.mk { k := tk, n := tn, x := tx, y := ty, s := ts, a := ta, c := tc, d := td } [] []) m n l else .error 73) ∧ m.length * 1000 + ns.length * 10 + 9 ≤ k
  | 2, k, a, w => ∃ F n m l ov ns B T, Jc Z F0 W0 b tb R X F n m l ov ns B a w ∧ Gdn ns ∧ l.length ≤ n ∧ Hand (W0.heap.size + 2) F B ov w X T ∧ Hid (r = fin7 ns T m n l) ∧ m.length * 1000 + ns.length * 10 + 8 ≤ k
  | 3, k, a, w => ∃ F n m l ov e ns B, Jc Z F0 W0 b tb R X F n m l ov (e :: ns) B a w ∧ Gdn ns ∧ l.length ≤ n ∧ e.w ≤ 256 ∧ e.ts.length ≤ e.w ∧ Hid (r = nxt e ns m n l) ∧ m.length * 1000 + (ns.length + 1) * 10 + 5 ≤ k
  | 4, k, a, w => ∃ F n m l ov B T, Jc Z F0 W0 b tb R X F n m l ov [] B a w ∧ Hand (W0.heap.size + 2) F B ov w X T ∧ Hid (r = fin7 [] T m n l) ∧ m.length * 1000 ≤ k
  | _, _, _, _ => False
/-- How whole's body ends. -/
abbrev QB (r : Except Int Tm) (F0 : Nat → Prop) (W0 : World) (b : Nat) : Exit → Act → World → Prop := bodyPost Tryz.prog Tryz.f13 (fun e w' => EndWh F0 W0 b e w' r)
abbrev QJ (r : Except Int Tm) (Z F0 : Nat → Prop) (W0 : World) (b tb R X K : Nat) : Exit → Act → World → Prop := jumpsI (Jw r Z F0 W0 b tb R X) K (QB r F0 W0 b)
theorem pan {K : Nat} {c : Int} (h : r = .error c) : ∀ a w, a.defers = [] → Gr (fun k => k = b ∨ F0 k) W0 w → QJ r Z F0 W0 b tb R X K (.panic [{ v := .iface 32 (.int .i64 c), recovered := false }]) a w := by
  intro a w hd g
  subst h
  exact ⟨hd, rfl, g⟩

theorem pass4 (Y : Code) (hY : Lab 4 (.seq .skip Y)) (K : Nat) (a : Act) (w : World) (hJ : Jw r Z F0 W0 b tb R X 4 K a w) : Y.wp Tryz.prog (QJ r Z F0 W0 b tb R X K) a w := by
  obtain ⟨F, n, m, l, ov, B, T, J, hT, hr, hK⟩ := hJ
  exact end_w Y hY (QJ r Z F0 W0 b tb R X K) r b tb R X n m l ov B T (fun a w h => h) (fun ch a w h => h) a w J hT hr

theorem doneP (Y : Code) (hY : Lab 2 (.seq .skip Y)) (K : Nat) (a : Act) (w : World) (hJ : Jw r Z F0 W0 b tb R X 2 K a w) : Y.wp Tryz.prog (QJ r Z F0 W0 b tb R X K) a w := by
  obtain ⟨F, n, m, l, ov, ns, B, T, J, hg, hl, hT, hr, hK⟩ := hJ
  cases ns with
  | nil =>
    refine done_nil Y hY _ b tb R X n m l ov B T (fun a w J' hT' => ?_) a w J hT
    exact ⟨m.length * 1000, by omega, F, n, m, l, ov, B, T, J', hT', hr, Nat.le_refl _⟩
  | cons e ns =>
    have he := hg e (List.mem_cons_self ..)
    have hg' : Gdn ns := fun e' h => hg e' (List.mem_cons_of_mem _ h)
    simp only [List.length_cons] at hK
    refine done_cons Y hY _ b tb R X n m l ov e ns B T (fun a w ov' B' J' hlt => ?_) (fun a w ov' B' T' J' hT' hT2 hlt => ?_) a w J hT he.1 he.2
    · refine ⟨m.length * 1000 + (ns.length + 1) * 10 + 1, by omega, F, n, m, l, ov', ⟨e.k, e.w, e.ts ++ [T]⟩ :: ns, B', J', ?_, hl, Lib.hid ?_, by simp⟩
      · intro e' h
        rcases List.mem_cons.1 h with rfl | h
        · exact ⟨he.1, hlt⟩
        · exact hg' e' h
      · rw [hr.out, fin_nxt]; exact nxt_beg hlt
    · refine ⟨m.length * 1000 + ns.length * 10 + 8, by omega, F, n, m, l, ov', ns, B', T', J', hg', hl, hT', Lib.hid ?_, Nat.le_refl _⟩
      rw [hr.out, fin_nxt, hT2]; exact nxt_fin hlt

set_option maxRecDepth 4000 in
theorem pass3 (Y : Code) (hY : Lab 3 (.seq .skip Y)) (K : Nat) (a : Act) (w : World) (hJ : Jw r Z F0 W0 b tb R X 3 K a w) : Y.wp Tryz.prog (QJ r Z F0 W0 b tb R X K) a w := by
  obtain ⟨F, n, m, l, ov, e, ns, B, J, hg, hl, hw, hts, hr, hK⟩ := hJ
  refine next_w Y hY _ b tb R X n m l ov e ns B (fun a w J' hlt => ?_) (fun a w ov' B' T' J' hT' hT2 hlt => ?_) a w J hw (Nat.le_trans hts hw)
  · refine ⟨m.length * 1000 + (ns.length + 1) * 10 + 1, by omega, F, n, m, l, ov, e :: ns, B, J', ?_, hl, Lib.hid ?_, ?_⟩
    · intro e' h
      rcases List.mem_cons.1 h with rfl | h
      · exact ⟨hw, hlt⟩
      · exact hg e' h
    · rw [hr.out]; exact nxt_beg hlt
    · rw [List.length_cons]; exact Nat.le_refl _
  · refine ⟨m.length * 1000 + ns.length * 10 + 8, by omega, F, n, m, l, ov', ns, B', T', J', hg, hl, hT', Lib.hid ?_, Nat.le_refl _⟩
    rw [hr.out, hT2]; exact nxt_fin hlt

theorem pass1 (Y : Code) (hY : Lab 1 (.seq .skip Y)) (K : Nat) (a : Act) (w : World) (hJ : Jw r Z F0 W0 b tb R X 1 K a w) : Y.wp Tryz.prog (QJ r Z F0 W0 b tb R X K) a w := by
  obtain ⟨F, n, m, l, ov, ns, B, tk, tn, tx, ty, ts, ta, tc, td, ok, J, hg, hl, hx, hck, hr, hK⟩ := hJ
  refine value_l Y hY _ b tb R X n m l ov ns B tk tn tx ty ts ta tc td ok 24 (fun _ => by decide) (fun hok X2 hX2 a w J' hT => ?_) (fun hok => pan (by rw [hr.out, hok]; simp)) hck a w J hx
  have hK8 : m.length * 1000 + ns.length * 10 + 8 ≤ K := Nat.le_trans (Nat.le_succ _) hK
  exact doneP X2 hX2 K a w ⟨F, n, m, l, ov, ns, B, _, J', hg, hl, hT, Lib.hid (by rw [hr.out, hok]; simp), hK8⟩

theorem pass0 (Y : Code) (hY : Lab 0 (.seq .skip Y)) (K : Nat) (a : Act) (w : World) (hJ : Jw r Z F0 W0 b tb R X 0 K a w) : Y.wp Tryz.prog (QJ r Z F0 W0 b tb R X K) a w := by
  obtain ⟨F, n, m, l, ov, ns, B, J, hg, hl, hr, hK⟩ := hJ
  by_cases hm : m = [] ∨ ns.length = 24 ∨ n = 4096
  · obtain ⟨c, hc⟩ := beg_no (l := l) J.nl J.n4 hm
    exact begin_no Y hY _ b tb R X n m l ov ns B c hc hm (pan (by rw [hr.out]; simp only [beg, hc])) a w J
  · have h24 : ns.length < 24 := by have := J.nl; omega
    have hn : n < 4096 := by have := J.n4; omega
    obtain ⟨k, m, rfl⟩ : ∃ k m', m = k :: m' := by
      cases m with
      | nil => exact absurd (.inl rfl) hm
      | cons k m => exact ⟨k, m, rfl⟩
    have hby : Byt (k :: m) := J.op.rt.re.byte
    have hk := hby k (List.mem_cons_self ..)
    have hbeg := beg_cons (k := k) (m := m) (l := l) h24 hn
    simp only [List.length_cons] at hK
    by_cases e1 : k = 1
    · subst e1
      refine begin_int Y hY _ b tb R X n m l ov ns B (fun u m' hu a w J' hx => ?_) (fun c hc => pan (by rw [hr.out, hbeg]; simp [knq, hc])) a w J h24 hn
      have hlen := nmb_len _ _ _ _ _ _ hu
      refine ⟨m'.length * 1000 + ns.length * 10 + 9, by omega, F, n + 1, m', l, ov, ns, B, _, _, _, _, _, _, _, _, inR (unf (u : Int)), J', hg, by omega, hx, fun w => check_int w _, Lib.hid ?_, Nat.le_refl _⟩
      rw [hr.out, hbeg]
      cases hok : inR (unf (u : Int)) <;> simp [knq, hu, hok]
    by_cases e2 : k = 2
    · subst e2
      refine begin_cx Y hY _ b tb R X n m l ov ns B (fun h16 a w J' hx => ?_) (fun hc => pan (by rw [hr.out, hbeg]; simp [knq, hc])) a w J h24 hn
      have hq := cx_bq (fun x hx => hby x (List.mem_cons_of_mem _ hx)) h16
      refine ⟨(m.drop 16).length * 1000 + ns.length * 10 + 9, by simp only [List.length_drop]; omega, F, n + 1, m.drop 16, l, ov, ns, B, _, _, _, _, _, _, _, _, rp (be (m.take 8)) && rp (be ((m.drop 8).take 8)), J', hg, by omega, hx, fun w => check_cx w _ _ hq.2.1 hq.2.2, Lib.hid ?_, Nat.le_refl _⟩
      rw [hr.out, hbeg]
      cases hok : (rp (be (m.take 8)) && rp (be ((m.drop 8).take 8))) <;> simp [knq, h16, hok]
    by_cases e3 : k = 3
    · subst e3
      refine begin_atom Y hY _ b tb R X n m l ov ns B (fun s m' l' hu F' a w J' hT => ?_) (fun c hc => pan (by rw [hr.out, hbeg]; simp [knq, hc])) a w J h24 hn (by omega)
      have hlen := nmq_len hu
      refine ⟨m'.length * 1000 + ns.length * 10 + 8, by omega, F', n + 1, m', l', ov, ns, B, _, J', hg, by omega, hT, Lib.hid ?_, Nat.le_refl _⟩
      rw [hr.out, hbeg]
      simp [knq, hu]
    by_cases e4 : k = 4
    · subst e4
      refine begin_id4 Y hY _ b tb R X n m l ov ns B (fun c t u m' hu a w J' hx => ?_) (fun c hc => pan (by rw [hr.out, hbeg]; simp [knq, hc])) a w J h24 hn
      have hlen := idq_len hu
      refine ⟨m'.length * 1000 + ns.length * 10 + 9, by omega, F, n + 1, m', l, ov, ns, B, _, _, _, _, _, _, _, _, idOk c (t : Int) (u : Int), J', hg, by omega, hx, fun w => check_ref w _ _ _, Lib.hid ?_, Nat.le_refl _⟩
      rw [hr.out, hbeg]
      cases hok : idOk c (t : Int) (u : Int) <;> simp [knq, hu, hok]
    by_cases e5 : k = 5
    · subst e5
      refine begin_id5 Y hY _ b tb R X n m l ov ns B (fun c t u m' hu a w J' hx => ?_) (fun c hc => pan (by rw [hr.out, hbeg]; simp [knq, hc])) a w J h24 hn
      have hlen := idq_len hu
      refine ⟨m'.length * 1000 + ns.length * 10 + 9, by omega, F, n + 1, m', l, ov, ns, B, _, _, _, _, _, _, _, _, idOk c (t : Int) (u : Int), J', hg, by omega, hx, fun w => check_pid w _ _ _, Lib.hid ?_, Nat.le_refl _⟩
      rw [hr.out, hbeg]
      cases hok : idOk c (t : Int) (u : Int) <;> simp [knq, hu, hok]
    by_cases e6 : k = 6
    · subst e6
      refine begin_nest6 Y hY _ b tb R X n m l ov ns B (fun u m' hu h256 a w ov' B' J' => ?_) (fun c hc => pan (by rw [hr.out, hbeg]; rcases hc with hc | ⟨u, m', hc, h2, rfl⟩ <;> simp [knq, *])) a w J h24 hn
      have hlen := nmb_len _ _ _ _ _ _ hu
      refine ⟨m'.length * 1000 + (ns.length + 1) * 10 + 5, by omega, F, n + 1, m', l, ov', ⟨6, u, []⟩, ns, B', J', hg, by omega, by show u ≤ 256; omega, Nat.zero_le _, Lib.hid ?_, Nat.le_refl _⟩
      rw [hr.out, hbeg]
      simp only [nxt, List.length_nil, Nat.sub_zero]
      simp [knq, hu, h256]
      generalize elq _ _ _ _ _ _ = q
      rcases q with _ | ⟨_, _, _, _⟩ <;> rfl
    by_cases e7 : k = 7
    · subst e7
      refine begin_nest7 Y hY _ b tb R X n m l ov ns B (fun u m' hu h256 a w ov' B' J' => ?_) (fun c hc => pan (by rw [hr.out, hbeg]; rcases hc with hc | ⟨u, m', hc, h2, rfl⟩ <;> simp [knq, *])) a w J h24 hn
      have hlen := nmb_len _ _ _ _ _ _ hu
      refine ⟨m'.length * 1000 + (ns.length + 1) * 10 + 5, by omega, F, n + 1, m', l, ov', ⟨7, u, []⟩, ns, B', J', hg, by omega, by show u ≤ 256; omega, Nat.zero_le _, Lib.hid ?_, Nat.le_refl _⟩
      rw [hr.out, hbeg]
      simp only [nxt, List.length_nil, Nat.sub_zero]
      simp [knq, hu, h256]
      generalize elq _ _ _ _ _ _ = q
      rcases q with _ | ⟨_, _, _, _⟩ <;> rfl
    by_cases e8 : k = 8
    · subst e8
      refine begin_raw Y hY _ b tb R X n m l ov ns B (fun bs m' n' hu a w J' hT => ?_) (fun c hc => pan (by rw [hr.out, hbeg]; simp [knq, hc])) a w J h24 hn
      have hlen := rwq_len hu
      refine ⟨m'.length * 1000 + ns.length * 10 + 8, by omega, F, n', m', l, ov, ns, B, _, J', hg, by omega, hT, Lib.hid ?_, Nat.le_refl _⟩
      rw [hr.out, hbeg]
      simp [knq, hu]
    refine begin_else Y hY _ b tb R X n m k l ov ns B (pan (by rw [hr.out, hbeg]; simp [knq, e1, e2, e3, e4, e5, e6, e7, e8])) a w J h24 hn hk.1 hk.2 (by simpa using e1) (by simpa using e2) (by simpa using e3) (by simpa using e4) (by simpa using e5) (by simpa using e6) (by simpa using e7) (by simpa using e8)
end Go.Proofs.YtmohehfkbhllpaaGreat


namespace Go.Proofs.YtmohehfkbhllpaaGreat
open Go.RowKit Go.Maps
variable {Z F F0 : Nat → Prop} {W W' : World}

theorem lab0 : ∃ Y, Lab 0 (.seq .skip Y) := ⟨_, by unfold Lab; simp only [Tryz.f13, scopeOf, findLabel, Option.getD]; rfl⟩
theorem lab1 : ∃ Y, Lab 1 (.seq .skip Y) := ⟨_, by unfold Lab; simp only [Tryz.f13, scopeOf, findLabel, Option.getD]; rfl⟩
theorem lab2 : ∃ Y, Lab 2 (.seq .skip Y) := ⟨_, by unfold Lab; simp only [Tryz.f13, scopeOf, findLabel, Option.getD]; rfl⟩
theorem lab3 : ∃ Y, Lab 3 (.seq .skip Y) := ⟨_, by unfold Lab; simp only [Tryz.f13, scopeOf, findLabel, Option.getD]; rfl⟩
theorem lab4 : ∃ Y, Lab 4 (.seq .skip Y) := ⟨_, by unfold Lab; simp only [Tryz.f13, scopeOf, findLabel, Option.getD]; rfl⟩
/-- What stands behind each label. -/
def restOf (Y0 Y1 Y2 Y3 Y4 : Code) : Nat → Code
  | 0 => .seq .skip Y0
  | 1 => .seq .skip Y1
  | 2 => .seq .skip Y2
  | 3 => .seq .skip Y3
  | 4 => .seq .skip Y4
  | _ => .skip
theorem pass {r : Except Int Tm} {W0 : World} {b tb R X : Nat} {Y0 Y1 Y2 Y3 Y4 : Code} (h0 : Lab 0 (.seq .skip Y0)) (h1 : Lab 1 (.seq .skip Y1)) (h2 : Lab 2 (.seq .skip Y2)) (h3 : Lab 3 (.seq .skip Y3)) (h4 : Lab 4 (.seq .skip Y4)) :
    ∀ l k a w, Jw r Z F0 W0 b tb R X l k a w → (restOf Y0 Y1 Y2 Y3 Y4 l).wp Tryz.prog (QJ r Z F0 W0 b tb R X k) a w
  | 0, k, a, w, h => wp_seq (wp_skip (pass0 Y0 h0 k a w h))
  | 1, k, a, w, h => wp_seq (wp_skip (pass1 Y1 h1 k a w h))
  | 2, k, a, w, h => wp_seq (wp_skip (doneP Y2 h2 k a w h))
  | 3, k, a, w, h => wp_seq (wp_skip (pass3 Y3 h3 k a w h))
  | 4, k, a, w, h => wp_seq (wp_skip (pass4 Y4 h4 k a w h))
  | _ + 5, k, a, w, h => h.elim
theorem scopeF {r : Except Int Tm} {W0 : World} {b tb R X : Nat} {Y0 Y1 Y2 Y3 Y4 : Code} (h0 : Lab 0 (.seq .skip Y0)) (h1 : Lab 1 (.seq .skip Y1)) (h2 : Lab 2 (.seq .skip Y2)) (h3 : Lab 3 (.seq .skip Y3)) (h4 : Lab 4 (.seq .skip Y4)) :
    ∀ l k a w, Jw r Z F0 W0 b tb R X l k a w → findLabel (scopeOf (Tryz.f13.body.getD .skip)) l = some (restOf Y0 Y1 Y2 Y3 Y4 l)
  | 0, k, a, w, h => h0
  | 1, k, a, w, h => h1
  | 2, k, a, w, h => h2
  | 3, k, a, w, h => h3
  | 4, k, a, w, h => h4
  | _ + 5, k, a, w, h => h.elim

abbrev zer : Obj := .cells #[.int .i64 0, .int .i64 0, .complex .f64 0 0, .string e0, .int .i64 0, .int .u32 0, .int .u64 0, nl, nl] 31
theorem start {a : Act} {b tb : Nat} {m : List Int} (h : Rt Z F0 W b 0 tb m []) (hF : ∀ k, F0 k → k < W.heap.size) (hf : Fr b W.heap.size (W.heap.size + 1) nl a) :
    Jc Z F0 W b tb W.heap.size (W.heap.size + 1) F0 0 m [] nl [] (fun _ => False) a ((W.alloc zer).alloc zer) := by
  have g : Gr (fun _ => False) W ((W.alloc zer).alloc zer) := (Gr.alloc _ _ _).trans (Gr.alloc _ _ _)
  have hs1 : (W.alloc zer).heap.size = W.heap.size + 1 := by simp
  have hb := h.re.lt
  have hR : Bx ((W.alloc zer).alloc zer) W.heap.size 0 0 0 0 e0 0 0 0 nl nl := (heap_alloc_old (W.alloc zer) zer (by omega)).trans (heap_alloc_new W zer)
  have hX : Bx ((W.alloc zer).alloc zer) (W.heap.size + 1) 0 0 0 0 e0 0 0 0 nl nl := by
    have := heap_alloc_new (W.alloc zer) zer
    rw [hs1] at this
    exact this
  have hg := g.size
  refine ⟨hf, ⟨h.gr g (fun e => e) (fun _ _ e => e) (fun _ _ e => e), ⟨[], rfl, World.ownsRow_nil _ _ _ _⟩, fun k e => (by cases e), fun k e => e.elim, (by omega), fun k hk => (by have := h.zl k hk; omega), fun k hk => (by have := hF k hk; omega)⟩, hR, fun k hk => .inl hk, hF, g.mono (fun _ _ e => e.elim), rfl, rfl, by simp, by omega, hb, h.zl, ⟨_, _, _, _, _, _, _, _, _, _, hX⟩⟩

set_option maxRecDepth 20000 in
set_option maxHeartbeats 1600000 in
theorem whole_c (b tb : Nat) (m : List Int) (h : Rt Z F0 W b 0 tb m []) (hF : ∀ k, F0 k → k < W.heap.size) : Calls Tryz.prog 13 #[pt b] W fun e w' => EndWh F0 W b e w' (beg [] m 0 []) := by
  obtain ⟨Y0, h0⟩ := lab0
  obtain ⟨Y1, h1⟩ := lab1
  obtain ⟨Y2, h2⟩ := lab2
  obtain ⟨Y3, h3⟩ := lab3
  obtain ⟨Y4, h4⟩ := lab4
  obtain ⟨r, hr⟩ : ∃ r, r = beg [] m 0 [] := ⟨_, rfl⟩
  rw [← hr]
  replace hr := Lib.hid hr
  have hst := Lib.hid (fun a hf => start (a := a) h hF hf)
  have hp := Lib.hid (pass (r := r) (Z := Z) (F0 := F0) (W0 := W) (b := b) (tb := tb) (R := W.heap.size) (X := W.heap.size + 1) h0 h1 h2 h3 h4)
  have hfl := Lib.hid (scopeF (r := r) (Z := Z) (F0 := F0) (W0 := W) (b := b) (tb := tb) (R := W.heap.size) (X := W.heap.size + 1) h0 h1 h2 h3 h4)
  replace h0 := Lib.hid h0
  clear h hF h1 h2 h3 h4
  go_enter Tryz.func13, Tryz.ntmps13
  go_wp2_with fail
  refine wp_scope_idx (restOf Y0 Y1 Y2 Y3 Y4) (Jw r Z F0 W b tb W.heap.size (W.heap.size + 1)) (m.length * 1000 + 1) hfl.out ?_ hp.out
  generalize hX0 : Code.seq (Code.label 0) _ = X0
  have hL0 : Hid (∀ Z, Code.seq (Code.label 0) Z = X0 → Lab 0 (.seq .skip Z)) := Lib.hid (by
    intro Z hZ
    rw [← hX0] at hZ
    cases hZ
    unfold Lab
    simp only [Tryz.f13, scopeOf, findLabel, Option.getD]
    rfl)
  have HX := Lib.hid hX0
  clear hX0
  go_wp2_with fail
  have hX := HX.out
  rw [← hX]
  refine wp_seq (wp_label ?_)
  exact pass0 _ (hL0.out _ hX) _ _ _ ⟨F0, 0, m, [], nl, [], _, hst.out _ ⟨rfl, rfl, rfl, rfl, rfl, rfl⟩, fun e h => (by cases h), Nat.le_refl _, hr, Nat.le_refl _⟩
end Go.Proofs.YtmohehfkbhllpaaGreat

