/-
  Carried over from another seat of ours (GM).
-/
import Derived.Test.YtggkjkkbkpnkiaaGreatDoorGL
set_option linter.unusedVariables false
set_option linter.unusedSimpArgs false
namespace Go.Proofs.YtggkjkkbkpnkiaaGreatDoor
open Go.RowKit Go.Maps
variable {x : Kx} {W W' : World} {pb : Nat} {p p' : Ps}

/-! ### Behind a fault nothing is read -/
section
variable {ts : List Tn} {ex un g : Rule}
theorem pkT_err (h : p.e ≠ 0) : pkT ts p = tn0 := by rw [pkT, if_neg h]
theorem isV_err (h : p.e ≠ 0) (s : ByteArray) : isV ts p s = false := by rw [isV, pkT_err h]; rfl
theorem failV_err (h : p.e ≠ 0) (c : Int) : failV c p = p := by rw [failV, if_neg h]
theorem wantV_err (h : p.e ≠ 0) (s : ByteArray) : wantV ts s p = p := by rw [wantV, isV_err h, if_neg (by decide), failV_err h]
theorem nameV_err (h : p.e ≠ 0) (k : Int) (hk : k ≠ 0) : nameV ts k p = (e0, p) := by rw [nameV, pkT_err h, if_neg (by exact fun e => hk e.symm), failV_err h]
def Stuck (g : Rule) : Prop := ∀ p : Ps, p.e ≠ 0 → (g p).2 = p
theorem sevL_err (h : p.e ≠ 0) (s : ByteArray) (l : List Tr) : ∀ f, sevL ts s g f l p = (l, p)
  | 0 => rfl
  | f + 1 => by rw [sevL, isV_err h, if_neg (by decide)]
theorem sevV_err (hg : Stuck g) (h : p.e ≠ 0) (s : ByteArray) : (sevV ts s g p).2 = p := by
  rw [sevV, hg p h, sevL_err h]
theorem uptoV_err (hg : Stuck g) (h : p.e ≠ 0) (en : ByteArray) : (uptoV ts en g p).2 = p := by
  rw [uptoV, isV_err h, if_neg (by decide)]
  show wantV ts en (sevV ts cma g p).2 = p
  rw [sevV_err hg h, wantV_err h]
theorem varV_err : Stuck (varV ts) := fun p h => by rw [varV, nameV_err h 3 (by decide)]
theorem arrowV_err (hx : Stuck ex) : Stuck (arrowV ts ex) := fun p h => by
  rw [arrowV, wantV_err h]
  exact sevV_err hx h _
theorem nestV_err : Stuck (nestV ts ex un) := fun p h => by
  rw [nestV]
  simp only [isV_err h, if_neg (show ¬ false = true by decide), failV_err h]
theorem primV_err : Stuck (primV ts ex un) := fun p h => by
  rw [primV, pkT_err h, if_neg (by decide), if_neg (by decide), if_neg (by decide), if_neg (by decide)]
  exact nestV_err p h
theorem unaryV_err : Stuck (unaryV ts ex un) := fun p h => by
  rw [unaryV, isV_err h, if_neg (by decide)]
  exact primV_err p h
theorem any_err (h : p.e ≠ 0) (sg : List ByteArray) : sg.any (isV ts p) = false := by
  rw [List.any_eq_false]
  intro s _
  rw [isV_err h]
  decide
theorem joinV_err (hg : Stuck g) (sg : List ByteArray) (f : Nat) : Stuck (joinV ts sg g f) := fun p h => by
  rw [joinV, hg p h]
  cases f with
  | zero => rfl
  | succ f => rw [joinL, any_err h, if_neg (by decide)]
theorem exprV_err (hj : Stuck g) : Stuck (exprV ts ex g) := fun p h => by
  rw [exprV, hj p h, isV_err h, isV_err h, if_neg (by decide), if_neg (by decide)]
  exact hj p h
theorem exun_err : ∀ m, Stuck (exun ts m).1
  | 0 => fun p h => failV_err h 161
  | m + 1 => exprV_err (joinV_err (joinV_err (joinV_err unaryV_err _ _) _ _) _ _)
end

abbrev dot : ByteArray := ⟨#[46]⟩
/-- The parameters of a function. -/
def parV (ts : List Tn) (p : Ps) : List Tr × Ps := uptoV ts shutR (varV ts) (wantV ts opn (nameV ts 2 p).2)
def funV (ts : List Tn) (ex : Rule) (p : Ps) : Tr × Ps :=
  (.mk 17 (nameV ts 2 p).1 0 [] ((parV ts p).1 ++ [(arrowV ts ex (parV ts p).2).1]), wantV ts dot (arrowV ts ex (parV ts p).2).2)
set_option maxRecDepth 100000 in
set_option maxHeartbeats 1600000 in
theorem fun_c (d : Nat) (ex : Rule) (hx : RuleOk x 50 d ex) (hst : Stuck ex) (h : Pz x W pb p) (hd : p.d = d) :
    Calls Tryz.prog 17 #[pt pb] W fun e w' => EndR x W pb p e w' (funV x.ts ex p) ∧ ((funV x.ts ex p).2.e ≠ 0 ∨ p.i < (funV x.ts ex p).2.i) := by
  have hv := gvar_c (x := x) d
  have ha := arrow_c d ex hx
  have hm := h.hm
  replace hm := Lib.hid hm
  obtain ⟨i0, hi0, hzz, hz1, hz2⟩ := info_parts info25
  have hE : (nameV x.ts 2 p).2.e ≠ 0 → (funV x.ts ex p).2.e ≠ 0 := by
    intro he
    have e1 : (parV x.ts p).2 = (nameV x.ts 2 p).2 := by rw [parV, wantV_err he]; exact uptoV_err varV_err he _
    show (wantV x.ts dot (arrowV x.ts ex (parV x.ts p).2).2).e ≠ 0
    rw [e1, arrowV_err hst _ he, wantV_err he]
    exact he
  have hN1 : (nameV x.ts 2 p).2.e ≠ 0 ∨ p.i < (nameV x.ts 2 p).2.i := by
    unfold nameV
    split
    · exact .inr (Nat.lt_succ_self _)
    · refine .inl ?_
      show (failV 160 p).e ≠ 0
      unfold failV
      split
      · exact (by decide : (160 : Int) ≠ 0)
      · assumption
  have hqn := nameV_ge x.ts 2 p
  have hqw := wantV_ge x.ts opn (nameV x.ts 2 p).2
  have hqd := wantV_ge x.ts dot (arrowV x.ts ex (parV x.ts p).2).2
  have hup := fun W0 h0 => upTo_c (W := W0) (pb := pb) (p := wantV x.ts opn (nameV x.ts 2 p).2) 37 d (varV x.ts) hv shutR h0 ((hqw.2.trans hqn.2).trans hd)
  have hnm := fun w hp => gname_c (x := x) (W := w) (pb := pb) (p := p) hp 2 (by decide)
  rw [show uptoV x.ts shutR (varV x.ts) (wantV x.ts opn (nameV x.ts 2 p).2) = parV x.ts p from rfl] at hup
  have hfv : funV x.ts ex p = (.mk 17 (nameV x.ts 2 p).1 0 [] ((parV x.ts p).1 ++ [(arrowV x.ts ex (parV x.ts p).2).1]), wantV x.ts dot (arrowV x.ts ex (parV x.ts p).2).2) := rfl
  rw [hfv] at hE ⊢
  clear hfv
  generalize parV x.ts p = pr at hup hE hqd ⊢
  obtain ⟨l2, q⟩ := pr
  generalize nameV x.ts 2 p = nq at hnm hE hN1 hqn hqw hup ⊢
  obtain ⟨nm, q1⟩ := nq
  replace hqn : p.i ≤ q1.i ∧ q1.d = p.d := hqn
  replace hN1 : q1.e ≠ 0 ∨ p.i < q1.i := hN1
  replace hqw : q1.i ≤ (wantV x.ts opn q1).i ∧ (wantV x.ts opn q1).d = q1.d := hqw
  replace hqd : (arrowV x.ts ex q).2.i ≤ (wantV x.ts dot (arrowV x.ts ex q).2).i ∧ (wantV x.ts dot (arrowV x.ts ex q).2).d = (arrowV x.ts ex q).2.d := hqd
  replace hE : q1.e ≠ 0 → (wantV x.ts dot (arrowV x.ts ex q).2).e ≠ 0 := hE
  show Calls Tryz.prog 17 #[pt pb] W fun e w' => EndR x W pb p e w' (.mk 17 nm 0 [] (l2 ++ [(arrowV x.ts ex q).1]), wantV x.ts dot (arrowV x.ts ex q).2) ∧ ((wantV x.ts dot (arrowV x.ts ex q).2).e ≠ 0 ∨ p.i < (wantV x.ts dot (arrowV x.ts ex q).2).i)
  have hb := h.lt
  have h0 := h.g0 (Gr.alloc W (.cells zc 30) _)
  have hb0 := heap_alloc_new W (.cells zc 30)
  have g0 : Gr (fun _ => False) W (W.alloc (.cells zc 30)) := Gr.alloc _ _ _
  have hz0 : (W.alloc (.cells zc 30)).heap.size = W.heap.size + 1 := by simp
  go_enter Tryz.func17, Tryz.ntmps17
  go_wp2_with fail
  generalize W.alloc (.cells zc 30) = W0 at h0 hb0 g0 hz0 ⊢
  obtain ⟨b, hbb⟩ : ∃ b, W.heap.size = b := ⟨_, rfl⟩
  have hbp : pb < b := by omega
  rw [hbb] at hb0 hz0 ⊢
  refine (hnm W0 h0).mono ?_
  rintro e w1 ⟨rfl, h1, g1⟩
  replace h1 : Pz x w1 pb q1 := h1
  go_wp2_with fail
  refine (want_c h1 opn).mono ?_
  rintro e w2 ⟨rfl, h2, g2⟩
  go_wp2_with fail
  refine (hup w2 h2).mono ?_
  rintro e w3 ⟨u3, rfl, L3, h3, hi3, g3⟩
  replace h3 : Pz x w3 pb q := h3
  replace hi3 : q.d = (wantV x.ts opn q1).d ∧ (wantV x.ts opn q1).i ≤ q.i ∧ l2.length ≤ q.i + 1 := hi3
  have hs1 := g1.size
  have hs2 := g2.size
  have hs3 := g3.size
  have hbl3 := h3.lt
  replace L3 : Lr (b + 1) w3 l2 u3 := L3.mono (by omega)
  obtain ⟨sa, sc, rfl⟩ := L3.sv
  go_wp2_with fail
  refine (ha.2 w3 pb q h3 (((hi3.1.trans hqw.2).trans hqn.2).trans hd)).mono ?_
  rintro e w4 ⟨v, rfl, rep4, h4, ⟨hd4, hi4⟩, g4⟩
  obtain ⟨tk, tt, tn, a1, n1, c1, a2, n2, c2, rfl⟩ := rep4.agg
  have hs4 := g4.size
  have G5 := Gr.alloc w4 (.cells #[.int .i64 tk, .string tt, .int .i64 tn, .slice a1 n1 c1, .slice a2 n2 c2] 30) (fun _ => False)
  have hl5 := heap_alloc_new w4 (.cells #[.int .i64 tk, .string tt, .int .i64 tn, .slice a1 n1 c1, .slice a2 n2 c2] 30)
  have hbl4 := h4.lt
  go_wp2_with fail
  generalize Value.slice sa l2.length sc = u3 at L3 ⊢
  generalize w4.alloc _ = w5 at G5 hl5 ⊢
  refine (want_c (h4.g0 G5) dot).mono ?_
  rintro e w6 ⟨rfl, h6, g6⟩
  have hl6 := g6.keep hl5 (by omega)
  obtain ⟨⟨y0, y1, y2, y3, y4⟩, _⟩ := five_cells hl6
  have hs5 := G5.size
  have hs6 := g6.size
  obtain ⟨hL0, vs, hrow, hreps⟩ := L3
  have G36 : Gr (fun k => k = pb) w3 w6 := (g4.trans (G5.any _)).trans g6
  have rep6 : Rep (fun z => w3.heap.size ≤ z) w6 (arrowV x.ts ex q).1 (trv tk tt tn (.slice a1 n1 c1) (.slice a2 n2 c2)) := (rep4.g0 G5).gr g6 (fun k hk e => by omega)
  have rep6' := rep_apart rep6 hrow (Nat.le_refl _) hL0
  have hrow6 := ownsRow_gr hrow G36 (fun z h1 h2 => by omega)
  have hreps6 : Reps (fun z => b + 1 ≤ z ∧ u3.ownBlock ≠ some z) w6 l2 vs := hreps.turn (fun z hz hl => ⟨hz, G36.block z hl (by omega)⟩)
  have hlen : Hid (l2.length ≤ 100001) := by have := hm.out; have := h3.hi; have := hi3.2.2; show _ ≤ _; omega
  have hsb6 : Hid (b + 1 ≤ w6.heap.size) := by show _ ≤ _; omega
  have hb6 := g6.keep (G5.keep (g4.keep (g3.keep (g2.keep (g1.keep hb0 (by omega)) (by omega)) (by omega)) (by omega)) (fun e => e)) (by omega)
  have GW6 : Gr (fun k => k = pb) W w6 := (((g0.any _).trans g1).trans g2).trans (g3.trans G36)
  clear rep4 hreps hrow rep6 hnm hup
  go_wp2_with (first
    | (at_builtin; refine wpList_own2 _ rfl 28 _ _ rfl (b + 1) 30 i0 (trv 0 e0 0 nl nl) 5 80 Tryz.underlying28 hi0 hzz hz1 hz2 rfl (by decide) u3 l2.length (vs.flatMap cellsOf) ⟨w6.heap.size, 0, none⟩ 1 1 [.int .i64 tk, .string tt, .int .i64 tn, .slice a1 n1 c1, .slice a2 n2 c2] rfl rfl (hrow6.alloc _) rfl (cell_five_new _ _ _ _ _ _ _) (by simp [Value.oneCell']) (by unfold maxLen; have := hlen.out; omega) (by have := hlen.out; omega) (by have := hsb6.out; simp; omega) ?_; intro v' w7 hrow7 hgr7 hloc7; obtain ⟨a7, c7, rfl⟩ := ownsRow_sv hrow7))
  have Gx : Gr (fun _ => False) w6 (w6.alloc (.cells #[.int .i64 tk, .string tt, .int .i64 tn, .slice a1 n1 c1, .slice a2 n2 c2] 30)) := Gr.alloc _ _ _
  generalize w6.alloc _ = w6' at hrow7 hgr7 hloc7 Gx
  have hTx : Turn (fun z => b + 1 ≤ z ∧ u3.ownBlock ≠ some z) (fun z => b + 1 ≤ z ∧ u3.ownBlock ≠ some z) w6 w6' := fun z hz hl => ⟨hz, Gx.block z hl (fun e => e)⟩
  have hrow6' := ownsRow_gr hrow6 Gx (fun _ _ e => e)
  have L7 := Lr.grown (Nat.le_trans hsb6.out Gx.size) hrow6' (hreps6.turn hTx) (rep6'.turn hTx) hgr7 hloc7 hrow7
  have G67 : Gr (fun z => b + 1 ≤ z) w6' w7 := Gr.of_grown hgr7 (fun z e => (ownsRow_lt hrow6' z e).1)
  have h7 := (h6.g0 Gx).gr G67 (fun k hk e => by omega)
  have hb7 := G67.keep (Gx.keep hb6 (fun e => e)) (by omega)
  have G7 : Gr (fun k => k = pb) W w7 := (GW6.trans (Gx.any _)).trans' G67 (fun k hk e => by omega)
  clear hrow7 hgr7 hloc7 hrow6 hrow6' hreps6 rep6' hTx G67
  refine (node_c w7 17 nm a7 _ c7).mono ?_
  rintro e w8 ⟨rfl, g8⟩
  have hbN := g8.keep hb7 (fun e => e)
  obtain ⟨⟨m0, m1, m2, m3, m4⟩, f0, f1, f2, f3, f4⟩ := five_cells hbN
  have hbl7 := h7.lt
  clear y0 y1 y2 y3 y4
  go_wp2_with fail
  have gN : Gr (fun k => k = pb) W w8 := G7.trans (g8.any _)
  have rep := (L7.g0 g8).tree 17 nm
  have hN := h7.g0 g8
  have hJ1 : (wantV x.ts dot (arrowV x.ts ex q).2).d = p.d := (((hqd.2.trans hd4).trans hi3.1).trans hqw.2).trans hqn.2
  have hi4' : q.i ≤ (arrowV x.ts ex q).2.i := hi4
  have hJ2 : q1.i ≤ (wantV x.ts dot (arrowV x.ts ex q).2).i := by have := hi3.2.1; omega
  obtain ⟨hf, r1, r2, r3⟩ := fin_tree hbN rep hN hbp gN hbb
  clear m0 m1 m2 m3 m4
  obtain ⟨⟨m0, m1, m2, m3, m4⟩, _⟩ := five_cells hf
  exact bodyPost_ret (v := trv 17 nm 0 nl (.slice a7 _ c7)) (by simp [results, Tryz.results17, go_sem, m0, m1, m2, m3, m4]) rfl ⟨⟨_, rfl, r1, r2, ⟨hJ1, Nat.le_trans hqn.1 hJ2⟩, r3⟩, hN1.elim (fun e => .inl (hE e)) (fun e => .inr (Nat.lt_of_lt_of_le e hJ2))⟩

/-- All functions. -/
def progL (ts : List Tn) (ex : Rule) : Nat → List Tr → Ps → List Tr × Ps
  | 0, l, p => (l, p)
  | f + 1, l, p => if p.e = 0 ∧ p.i < ts.length then progL ts ex f (l ++ [(funV ts ex p).1]) (funV ts ex p).2 else (l, p)
def progV (ts : List Tn) (ex : Rule) (p : Ps) : List Tr × Ps := progL ts ex (2 * ts.length + 1) [] p
def mu (n : Nat) (q : Ps) : Nat := 2 * (n - q.i) + (if q.e = 0 then 1 else 0)
/-- The error, out of memory. -/
def erP (W : World) (pb : Nat) : Int := match W.cell? ⟨pb, 3, none⟩ with
  | some (.int _ n) => n
  | _ => 0
def muP (n : Nat) (W : World) (pb : Nat) : Nat := 2 * (n - atP W pb) + (if erP W pb = 0 then 1 else 0)
theorem Pz.muP (h : Pz x W pb p) (n : Nat) : muP n W pb = mu n p := by
  obtain ⟨⟨c0, c1, c2, c3⟩, _⟩ := h.facts
  simp [YtggkjkkbkpnkiaaGreatDoor.muP, mu, erP, h.atP, c3]
theorem mu_lt {n : Nat} {q q' : Ps} (h0 : q.e = 0) (hi : q.i < n) (hle : q.i ≤ q'.i) (h : q'.e ≠ 0 ∨ q.i < q'.i) : mu n q' < mu n q := by
  unfold mu
  rw [if_pos h0]
  by_cases he : q'.e = 0
  · rw [if_pos he]; rcases h with h | h
    · exact absurd he h
    · omega
  · rw [if_neg he]; omega
set_option maxRecDepth 100000 in
set_option maxHeartbeats 1600000 in
theorem prog_c (d : Nat) (ex : Rule) (hx : RuleOk x 50 d ex) (hst : Stuck ex) (h : Pz x W pb p) (hd : p.d = d) (hz : p.i = 0) (he0 : p.e = 0) :
    Calls Tryz.prog 12 #[pt pb] W fun e w' => ∃ v, e = .returned v ∧ Rep (fun z => W.heap.size ≤ z) w' (.mk 18 e0 0 [] (progV x.ts ex p).1) v ∧ Pz x w' pb (progV x.ts ex p).2 ∧ Gr (fun k => k = pb) W w' := by
  obtain ⟨r, hr⟩ : ∃ r, r = progV x.ts ex p := ⟨_, rfl⟩
  rw [← hr]
  have Hr := Lib.hid hr
  have Hz := Lib.hid hz
  have He := Lib.hid he0
  obtain ⟨i0, hi0, hzz, hz1, hz2⟩ := info_parts info25
  clear hr hz he0
  have hb := h.lt
  have h0 := h.g0 (Gr.alloc W (.cells zc 30) _)
  have hb0 := heap_alloc_new W (.cells zc 30)
  have g0 : Gr (fun _ => False) W (W.alloc (.cells zc 30)) := Gr.alloc _ _ _
  have hz0 : (W.alloc (.cells zc 30)).heap.size = W.heap.size + 1 := by simp
  go_enter Tryz.func12, Tryz.ntmps12
  go_wp2_with fail
  generalize W.alloc (.cells zc 30) = W0 at h0 hb0 g0 hz0 ⊢
  obtain ⟨b, hbb⟩ : ∃ b, W.heap.size = b := ⟨_, rfl⟩
  have hbp : pb < b := by omega
  rw [hbb] at hb0 hz0 ⊢
  have Hd := Lib.hid hd
  clear hd
  go_loopw [3] (fun u wr => ∃ (l : List Tr) (q : Ps) (f : Nat), Hid (mu x.ts.length q ≤ f) ∧ Hid (r = progL x.ts ex f l q) ∧ Lr (b + 1) wr l u ∧ Pz x wr pb q ∧ Hid (q.d = p.d ∧ l.length ≤ q.i + 1 ∧ (q.e = 0 → l.length ≤ q.i)) ∧ wr.heap[b]? = some (.cells zc 30 (0, 0)) ∧ Gr (fun k => k = pb) W wr) (fun u wr => muP x.ts.length wr pb)
  case atStart => exact ⟨[], p, 2 * x.ts.length + 1, by show mu _ _ ≤ _; unfold mu; split <;> omega, Hr.out, Lr.nil W0 (by omega), h0, ⟨rfl, by simp, fun _ => by simp⟩, hb0, g0.any _⟩
  case round =>
    obtain ⟨l, q, f, hf, Hq, hL, hP, hq, hB, hG⟩ := hrel
    have hbl := hP.lt
    obtain ⟨⟨c0, c1, c2, c3⟩, k0, k1, k2, k3⟩ := hP.facts
    have Hmu := Lib.hid (hP.muP x.ts.length)
    by_cases hlt : q.i < x.cut q
    · obtain ⟨he, hl2, _⟩ := hP.at hlt
      have h1 : (q.i : Int) < (x.cut q : Int) := by omega
      obtain ⟨f, rfl⟩ : ∃ f', f = f' + 1 := ⟨f - 1, by have := hf.out; unfold mu at this; rw [if_pos he] at this; omega⟩
      have Hq2 : Hid (r = progL x.ts ex f (l ++ [(funV x.ts ex q).1]) (funV x.ts ex q).2) := by
        show r = _
        rw [Hq.out, progL, if_pos ⟨he, hl2⟩]
      have hfn := fun w hp => fun_c (x := x) (W := w) (pb := pb) (p := q) d ex hx hst hp (by rw [hq.out.1]; exact Hd.out)
      clear Hq h0 hb0 hb
      go_wp2_with fail
      go_quiet (fail)
      go_wp2_with fail
      have hG0 : Gr (fun _ => False) wr (wr.drewN nq) := Gr.drewN wr nq _
      generalize wr.drewN nq = wd at hG0 ⊢
      have hL0 := hL.g0 hG0
      have hB0 := hG0.keep hB (fun e => e)
      refine (hfn wd (hP.g0 hG0)).mono ?_
      rintro e w4 ⟨⟨v, rfl, rep4, h4, hi4, g4⟩, hpr⟩
      obtain ⟨tk', tt', tn', a1', n1', c1', a2', n2', c2', rfl⟩ := rep4.agg
      obtain ⟨hL00, vs, hrow, hreps⟩ := hL0
      have hlen : Hid (l.length ≤ 100001) := by have := hq.out; have := h.hm; show _ ≤ _; omega
      have hs4 : Hid (b + 1 ≤ w4.heap.size) := Nat.le_trans hL00 g4.size
      have hrow4 := ownsRow_gr hrow g4 (fun z h1 h2 => by omega)
      have hreps4 : Reps (fun z => b + 1 ≤ z ∧ u3.ownBlock ≠ some z) w4 l vs := hreps.turn (fun z hz hl => ⟨hz, g4.block z hl (by omega)⟩)
      have rep4' := rep_apart rep4 hrow (Nat.le_refl _) hL00
      have hb4 := g4.keep hB0 (by omega)
      replace hi4 := Lib.hid hi4
      replace hpr := Lib.hid hpr
      have hbl4 := h4.lt
      clear hfn rep4 hreps c0 c1 c2 c3 k0 k1 k2 k3
      go_wp2_with (first
        | (at_builtin; refine wpList_own2 _ rfl 28 _ _ rfl (b + 1) 30 i0 (trv 0 e0 0 nl nl) 5 80 Tryz.underlying28 hi0 hzz hz1 hz2 rfl (by decide) u3 l.length (vs.flatMap cellsOf) ⟨w4.heap.size, 0, none⟩ 1 1 [.int .i64 tk', .string tt', .int .i64 tn', .slice a1' n1' c1', .slice a2' n2' c2'] rfl rfl (hrow4.alloc _) rfl (cell_five_new _ _ _ _ _ _ _) (by simp [Value.oneCell']) (by unfold maxLen; have := hlen.out; omega) (by have := hlen.out; omega) (by have := hs4.out; simp; omega) ?_; intro v' w5 hrow5 hgr5 hloc5; obtain ⟨a5, cap5, rfl⟩ := ownsRow_sv hrow5))
      have G4 : Gr (fun _ => False) w4 (w4.alloc (.cells #[.int .i64 tk', .string tt', .int .i64 tn', .slice a1' n1' c1', .slice a2' n2' c2'] 30)) := Gr.alloc _ _ _
      generalize w4.alloc _ = w4' at hrow5 hgr5 hloc5 G4
      have hT4 : Turn (fun z => b + 1 ≤ z ∧ u3.ownBlock ≠ some z) (fun z => b + 1 ≤ z ∧ u3.ownBlock ≠ some z) w4 w4' := fun z hz hl => ⟨hz, G4.block z hl (fun e => e)⟩
      have hrow4' := ownsRow_gr hrow4 G4 (fun _ _ e => e)
      have L5 := Lr.grown (Nat.le_trans hs4.out G4.size) hrow4' (hreps4.turn hT4) (rep4'.turn hT4) hgr5 hloc5 hrow5
      have G5 : Gr (fun z => b + 1 ≤ z) w4' w5 := Gr.of_grown hgr5 (fun z e => (ownsRow_lt hrow4' z e).1)
      have h5 := (h4.g0 G4).gr G5 (fun k hk e => by omega)
      have hb5 := G5.keep (G4.keep hb4 (fun e => e)) (by omega)
      have g5 : Gr (fun k => k = pb) W w5 := (((hG.trans (hG0.any _)).trans g4).trans (G4.any _)).trans' G5 (fun k hk e => by omega)
      have m1' := mu_lt (q' := (funV x.ts ex q).2) he hl2 hi4.out.2 hpr.out
      have n1 : Hid (mu x.ts.length (funV x.ts ex q).2 ≤ f) := by have := hf.out; show _ ≤ _; omega
      have n2 : Hid ((funV x.ts ex q).2.d = p.d ∧ (l ++ [(funV x.ts ex q).1]).length ≤ (funV x.ts ex q).2.i + 1 ∧ ((funV x.ts ex q).2.e = 0 → (l ++ [(funV x.ts ex q).1]).length ≤ (funV x.ts ex q).2.i)) := by
        have h6 := hi4.out
        have h7 := hq.out
        have h8 := h7.2.2 he
        refine ⟨h6.1.trans h7.1, by simp; omega, fun h9 => ?_⟩
        rcases hpr.out with h10 | h10
        · exact absurd h9 h10
        · simp; omega
      have n3 : muP x.ts.length w5 pb < muP x.ts.length wr pb := by rw [h5.muP, Hmu.out]; exact m1'
      replace n3 := Lib.hid n3
      clear hrow5 hgr5 hloc5 hrow4 hrow4' hreps4 rep4' hT4 G5 G4 m1' hrow
      go_wp2_with fail
      exact ⟨⟨_, _, f, n1, Hq2, L5, h5, n2, hb5, g5⟩, n3.out⟩
    · have h1 : decide ((q.i : Int) < (x.cut q : Int)) = false := by simp; omega
      have Hq2 : r = (l, q) := by
        rw [Hq.out]
        cases f with
        | zero => rfl
        | succ f =>
          rw [progL, if_neg]
          rintro ⟨e1, e2⟩
          rw [Kx.cut, if_pos e1] at hlt
          exact hlt e2
      subst Hq2
      obtain ⟨sa, sc, rfl⟩ := hL.sv
      go_wp2_with fail
      go_quiet (fail)
      go_wp2_with fail
      have hG0 : Gr (fun _ => False) wr (wr.drewN nq) := Gr.drewN wr nq _
      generalize wr.drewN nq = wd at hG0 ⊢
      refine (node_c wd 18 e0 sa _ sc).mono ?_
      rintro e w4 ⟨rfl, g4⟩
      have hbN := g4.keep (hG0.keep hB (fun e => e)) (fun e => e)
      obtain ⟨⟨m0, m1, m2, m3, m4⟩, f0, f1, f2, f3, f4⟩ := five_cells hbN
      have hN := (hP.g0 hG0).g0 g4
      have hblN := hN.lt
      go_wp2_with fail
      have gN : Gr (fun k => k = pb) W w4 := (hG.trans (hG0.any _)).trans (g4.any _)
      have rep := ((hL.g0 hG0).g0 g4).tree 18 e0
      obtain ⟨hf', r1, r2, r3⟩ := fin_tree hbN rep hN hbp gN hbb
      clear m0 m1 m2 m3 m4
      obtain ⟨⟨m0, m1, m2, m3, m4⟩, _⟩ := five_cells hf'
      exact bodyPost_ret (v := trv 18 e0 0 nl (.slice sa l.length sc)) (by simp [results, Tryz.results12, go_sem, m0, m1, m2, m3, m4]) rfl ⟨_, rfl, r1.mono (Nat.le_of_eq hbb.symm), r2, r3⟩

/-- The tree of tokens, or where something is wrong, and what. -/
def parseV (ts : List Tn) : Except (Nat × Int) Tr :=
  if (progV ts (exun ts 41).1 ⟨0, 0, 0⟩).2.e ≠ 0 then .error ((progV ts (exun ts 41).1 ⟨0, 0, 0⟩).2.i, (progV ts (exun ts 41).1 ⟨0, 0, 0⟩).2.e) else .ok (.mk 18 e0 0 [] (progV ts (exun ts 41).1 ⟨0, 0, 0⟩).1)
/-- How Parse ends. -/
def EndP (W : World) (e : Ending) (w' : World) : Except (Nat × Int) Tr → Prop
  | .ok T => ∃ v, e = .returned (.tuple #[v, .int .i64 0, .int .i64 0]) ∧ Rep (fun z => W.heap.size ≤ z) w' T v ∧ Gr (fun _ => False) W w'
  | .error (i, c) => e = .returned (.tuple #[tr0v, .int .i64 (i : Int), .int .i64 c]) ∧ Gr (fun _ => False) W w'
set_option maxRecDepth 100000 in
set_option maxHeartbeats 1600000 in
theorem parse_c (W : World) (ts : List Tn) (vs : List Value) (a : Option Addr) (c : Nat) (hrow : RowK (fun k => k < W.heap.size) W ts vs a c) (hbs : BsK (fun k => k < W.heap.size) W ts vs) (hc : ts.length ≤ c) (hm : ts.length ≤ 100000) (hS : ∀ t ∈ ts, t.s.size ≤ 140737488351232) (hB : ∀ t ∈ ts, t.b.length ≤ 200000) (hL : Lv W) (h4 : 4 < W.heap.size) :
    Calls Tryz.prog 7 #[.slice a ts.length c] W fun e w' => EndP W e w' (parseV ts) := by
  have hpr := fun (x : Kx) (hx : x.ts = ts) w pb hp => prog_c (x := x) (W := w) (pb := pb) (p := ⟨0, 0, 0⟩) 0 (exun x.ts 41).1 (rules_ok 41 0 rfl (by decide)).1 (exun_err 41) hp rfl rfl rfl
  rw [parseV]
  generalize hpv : progV ts (exun ts 41).1 ⟨0, 0, 0⟩ = r
  obtain ⟨x, hx⟩ : ∃ x : Kx, x = { N := W.heap.size, ts := ts, vs := vs, a := a, c := c } := ⟨_, rfl⟩
  have hxt : x.ts = ts := by rw [hx]
  have hpr := hpr x hxt
  rw [hxt, hpv] at hpr
  have gx : Gr (fun _ => False) W ((W.alloc (.cells zc 30)).alloc (.cells #[.slice a ts.length c, .int .i64 0, .int .i64 0, .int .i64 0] 42)) := (Gr.alloc W _ _).trans (Gr.alloc _ _ _)
  have hxb : ((W.alloc (.cells zc 30)).alloc (.cells #[.slice a ts.length c, .int .i64 0, .int .i64 0, .int .i64 0] 42)).heap[W.heap.size]? = some (.cells zc 30 (0, 0)) := (Gr.alloc (W.alloc (.cells zc 30)) _ (fun _ => False)).keep (heap_alloc_new W (.cells zc 30)) (fun e => e)
  have hxp : ((W.alloc (.cells zc 30)).alloc (.cells #[.slice a ts.length c, .int .i64 0, .int .i64 0, .int .i64 0] 42)).heap[W.heap.size + 1]? = some (.cells #[.slice a ts.length c, .int .i64 0, .int .i64 0, .int .i64 0] 42 (0, 0)) := by
    have := heap_alloc_new (W.alloc (.cells zc 30)) (.cells #[.slice a ts.length c, .int .i64 0, .int .i64 0, .int .i64 0] 42)
    simpa using this
  have hsz : ((W.alloc (.cells zc 30)).alloc (.cells #[.slice a ts.length c, .int .i64 0, .int .i64 0, .int .i64 0] 42)).heap.size = W.heap.size + 2 := by simp
  generalize hW0 : (W.alloc (.cells zc 30)).alloc (.cells #[.slice a ts.length c, .int .i64 0, .int .i64 0, .int .i64 0] 42) = W0 at gx hxb hxp hsz
  have hT : Turn (fun k => k < W.heap.size) (fun k => k < W.heap.size) W W0 := fun k hk hl => ⟨hk, gx.block k hl (fun e => e)⟩
  have hP0 : Pz x W0 (W.heap.size + 1) ⟨0, 0, 0⟩ := by
    subst hx
    exact ⟨hxp, hrow.turn hT, hbs.turn hT, hL.gr gx (fun e => e) (fun e => e), h4, Nat.le_succ _, Nat.zero_le _, by decide, hc, hm, hS, hB⟩
  have hc0 := hpr W0 (W.heap.size + 1) hP0
  have hxN : x.N = W.heap.size := by rw [hx]
  have HW0 := Lib.hid hW0
  clear hpr hrow hbs hT hx hxp hpv hW0
  by_cases he : r.2.e = 0
  · have q : (r.2.e != 0) = false := by simp [he]
    rw [if_neg (by simp [he])]
    replace he := Lib.hid he
    go_enter Tryz.func7, Tryz.ntmps7
    go_wp2_with fail
    rw [show (W.alloc (.cells #[.int .i64 0, .string ⟨#[]⟩, .int .i64 0, .slice none 0 0, .slice none 0 0] 30)).alloc (.cells #[.slice a ts.length c, .int .i64 0, .int .i64 0, .int .i64 0] 42) = W0 from HW0.out]
    clear HW0
    obtain ⟨b, hbb⟩ : ∃ b, W.heap.size = b := ⟨_, rfl⟩
    obtain ⟨pb, hpb⟩ : ∃ u, W.heap.size + 1 = u := ⟨_, rfl⟩
    rw [hpb] at hc0 hP0 ⊢
    rw [hbb] at hxb ⊢
    have q1 : b < pb := by omega
    refine hc0.mono ?_
    rintro e w1 ⟨v, rfl, rep1, h1, g1⟩
    obtain ⟨tk, tt, tn, a1, n1, c1', a2, n2, c2', rfl⟩ := rep1.agg
    have hb1 := g1.keep hxb (by omega)
    have hs1 := g1.size
    have hbl := h1.lt
    obtain ⟨⟨c0, c1, c2, c3⟩, k0, k1, k2, k3⟩ := h1.facts
    obtain ⟨⟨m0, m1, m2, m3, m4⟩, f0, f1, f2, f3, f4⟩ := five_cells hb1
    have G2 := Gr.alloc w1 (.cells #[.int .i64 tk, .string tt, .int .i64 tn, .slice a1 n1 c1', .slice a2 n2 c2'] 30) (fun _ => False)
    have hn1 : w1.heap.size ≠ pb := by omega
    have hn2 : w1.heap.size ≠ b := by omega
    have hn3 : pb ≠ b := by omega
    have hbw : b < w1.heap.size := by omega
    have gW : Gr (fun _ => False) W w1 := (gx.trans' (S' := fun k => k = pb) g1 (fun k hk e => by omega))
    go_wp2_with fail
    have gs := set5_gr w1 b (.int .i64 tk) (.string tt) (.int .i64 tn) (.slice a1 n1 c1') (.slice a2 n2 c2')
    have hf := set5_heap hb1 (.int .i64 tk) (.string tt) (.int .i64 tn) (.slice a1 n1 c1') (.slice a2 n2 c2')
    have gF := Gr.alloc (set5 w1 b (.int .i64 tk) (.string tt) (.int .i64 tn) (.slice a1 n1 c1') (.slice a2 n2 c2')) (.cells #[.int .i64 tk, .string tt, .int .i64 tn, .slice a1 n1 c1', .slice a2 n2 c2'] 30) (fun _ => False)
    have gE : Gr (fun _ => False) W (set5 w1 b (.int .i64 tk) (.string tt) (.int .i64 tn) (.slice a1 n1 c1') (.slice a2 n2 c2')) := gW.trans' gs (fun k hk e => by omega)
    have rep := (((rep1.mono (base' := b + 1) (by omega)).gr gs (fun k hk e => by omega)).mono (base' := W.heap.size) (by omega)).g0 gF
    clear m0 m1 m2 m3 m4
    obtain ⟨⟨m0, m1, m2, m3, m4⟩, _⟩ := five_cells (gF.keep hf (fun e => e))
    exact bodyPost_ret (v := .tuple #[trv tk tt tn (.slice a1 n1 c1') (.slice a2 n2 c2'), .int .i64 0, .int .i64 0]) (by simp [results, Tryz.results7, go_sem, m0, m1, m2, m3, m4]) rfl ⟨_, rfl, rep, gE.trans gF⟩
  · have q : (r.2.e != 0) = true := by simp [he]
    rw [if_pos he]
    replace he := Lib.hid he
    go_enter Tryz.func7, Tryz.ntmps7
    go_wp2_with fail
    rw [show (W.alloc (.cells #[.int .i64 0, .string ⟨#[]⟩, .int .i64 0, .slice none 0 0, .slice none 0 0] 30)).alloc (.cells #[.slice a ts.length c, .int .i64 0, .int .i64 0, .int .i64 0] 42) = W0 from HW0.out]
    clear HW0
    obtain ⟨b, hbb⟩ : ∃ b, W.heap.size = b := ⟨_, rfl⟩
    obtain ⟨pb, hpb⟩ : ∃ u, W.heap.size + 1 = u := ⟨_, rfl⟩
    rw [hpb] at hc0 hP0 ⊢
    rw [hbb] at hxb ⊢
    have q1 : b < pb := by omega
    refine hc0.mono ?_
    rintro e w1 ⟨v, rfl, rep1, h1, g1⟩
    obtain ⟨tk, tt, tn, a1, n1, c1', a2, n2, c2', rfl⟩ := rep1.agg
    have hb1 := g1.keep hxb (by omega)
    have hs1 := g1.size
    have hbl := h1.lt
    obtain ⟨⟨c0, c1, c2, c3⟩, k0, k1, k2, k3⟩ := h1.facts
    obtain ⟨⟨m0, m1, m2, m3, m4⟩, f0, f1, f2, f3, f4⟩ := five_cells hb1
    have G2 := Gr.alloc w1 (.cells #[.int .i64 tk, .string tt, .int .i64 tn, .slice a1 n1 c1', .slice a2 n2 c2'] 30) (fun _ => False)
    have hn1 : w1.heap.size ≠ pb := by omega
    have hn2 : w1.heap.size ≠ b := by omega
    have hn3 : pb ≠ b := by omega
    have hbw : b < w1.heap.size := by omega
    have gW : Gr (fun _ => False) W w1 := (gx.trans' (S' := fun k => k = pb) g1 (fun k hk e => by omega))
    go_wp2_with fail
    go_region
    go_wp2_with fail
    have gs := set5_gr w1 b (.int .i64 0) (.string e0) (.int .i64 0) nl nl
    have hf := set5_heap hb1 (.int .i64 0) (.string e0) (.int .i64 0) nl nl
    have gF := (Gr.alloc (set5 w1 b (.int .i64 0) (.string e0) (.int .i64 0) nl nl) (.cells #[.int .i64 tk, .string tt, .int .i64 tn, .slice a1 n1 c1', .slice a2 n2 c2'] 30) (fun _ => False)).trans (Gr.drew _ _)
    have gE : Gr (fun _ => False) W (set5 w1 b (.int .i64 0) (.string e0) (.int .i64 0) nl nl) := gW.trans' gs (fun k hk e => by omega)
    clear m0 m1 m2 m3 m4
    obtain ⟨⟨m0, m1, m2, m3, m4⟩, _⟩ := five_cells ((Gr.alloc (set5 w1 b (.int .i64 0) (.string e0) (.int .i64 0) nl nl) (.cells #[.int .i64 tk, .string tt, .int .i64 tn, .slice a1 n1 c1', .slice a2 n2 c2'] 30) (fun _ => False)).keep hf (fun e => e))
    exact bodyPost_ret (v := .tuple #[tr0v, .int .i64 (r.2.i : Int), .int .i64 r.2.e]) (by simp [results, Tryz.results7, go_sem, m0, m1, m2, m3, m4]) rfl ⟨rfl, gE.trans gF⟩
end Go.Proofs.YtggkjkkbkpnkiaaGreatDoor


