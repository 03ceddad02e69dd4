/-
  The reference's prim as a whole; what its fun reckons with.
  The reference's fun.
-/
import Derived.Test.YtggkjkkbkpnkiaaGreatDoorRQ
set_option linter.unusedVariables false
set_option linter.unusedSimpArgs false
namespace Go.Proofs.YtggkjkkbkpnkiaaGreatDoor
open Go.RowKit Go.Maps
variable {x : Kx} {W W' : World} {p p' : Ps}
theorem nameV_yes {ts : List Tn} {k : Int} {q : Ps} (h : (pkT ts q).k = k) : nameV ts k q = ((pkT ts q).s, q.next) := by rw [nameV, if_pos h]
theorem nameV_no {ts : List Tn} {k : Int} {q : Ps} (h : (pkT ts q).k ≠ k) : nameV ts k q = (e0, failV 160 q) := by rw [nameV, if_neg h]
theorem rprim_c (d : Nat) (ex un : Rule) (hex : d < 40 → ROk x 39 (d + 1) ex) (hun : d < 40 → ROk x 74 (d + 1) un) (hse : Stuck ex) (hsu : Stuck un) : ROk x 84 d (primV x.ts ex un) := by
  intro W p h hd
  unfold primV
  by_cases h1 : (pkT x.ts p).k = 1
  · rw [if_pos h1]; exact rprim_int h h1
  rw [if_neg h1]
  by_cases h4 : (pkT x.ts p).k = 4
  · rw [if_pos h4]; exact rprim_bytes h h4
  rw [if_neg h4]
  by_cases h3 : (pkT x.ts p).k = 3
  · rw [if_pos h3]
    have e : varV x.ts p = (.mk 3 (pkT x.ts p).s 0 [] [], p.next) := by rw [varV, nameV_yes h3]
    rw [e]
    exact rprim_var h h3
  rw [if_neg h3]
  by_cases h2 : (pkT x.ts p).k = 2
  · rw [if_pos h2]; exact rprim_atom d ex hex h hd h2
  rw [if_neg h2]
  exact rprim_nest d ex un (fun hd => rinner_c (d + 1) ex un (hex hd) (hun hd) hse hsu) h hd (by omega)
/-- The parameters from a place on. -/
def HV (ts : List Tn) : Bool → Nat → List Tr → Ps → List Tr × Ps
  | true, _, l, q => if isV ts q shutR = true then (l, q) else sevL ts cma (varV ts) ts.length (l ++ [(varV ts q).1]) (varV ts q).2
  | false, f, l, q => sevL ts cma (varV ts) f l q
theorem HV_upto (ts : List Tn) (q : Ps) : uptoV ts shutR (varV ts) q = ((HV ts true 0 [] q).1, wantV ts shutR (HV ts true 0 [] q).2) := by
  unfold uptoV
  show _ = ((if isV ts q shutR = true then ([], q) else sevL ts cma (varV ts) ts.length ([] ++ [(varV ts q).1]) (varV ts q).2).1, wantV ts shutR (if isV ts q shutR = true then ([], q) else sevL ts cma (varV ts) ts.length ([] ++ [(varV ts q).1]) (varV ts q).2).2)
  by_cases h : isV ts q shutR = true
  · rw [if_pos h, if_pos h]
  · rw [if_neg h, if_neg h]
    rfl
theorem HV_stop {ts : List Tn} (fs : Bool) (f : Nat) (l : List Tr) (q : Ps) (h : q.e ≠ 0) : (HV ts fs f l q).2 = q := by
  cases fs with
  | true =>
    show (if isV ts q shutR = true then (l, q) else sevL ts cma (varV ts) ts.length (l ++ [(varV ts q).1]) (varV ts q).2).2 = q
    rw [isV_err h, if_neg (by decide), varV_err q h, sevL_err h]
  | false =>
    show (sevL ts cma (varV ts) f l q).2 = q
    rw [sevL_err h]
theorem shut_cma {ts : List Tn} {q : Ps} (h : isV ts q shutR = true) : isV ts q cma = false := by
  cases hb : isV ts q cma with
  | false => rfl
  | true =>
    unfold isV at h hb
    simp only [Bool.and_eq_true, beq_iff_eq, decide_eq_true_eq] at h hb
    have := h.2.symm.trans hb.2
    rw [ByteArray.toList_eq, ByteArray.toList_eq] at this
    exact absurd this (by decide)
theorem HV_shut {ts : List Tn} (fs : Bool) (f : Nat) (l : List Tr) (q : Ps) (h : isV ts q shutR = true) : HV ts fs f l q = (l, q) := by
  cases fs with
  | true =>
    show (if isV ts q shutR = true then (l, q) else _) = _
    rw [if_pos h]
  | false =>
    show sevL ts cma (varV ts) f l q = _
    cases f with
    | zero => rfl
    | succ f => rw [sevL, if_neg (by rw [shut_cma h]; decide)]
theorem failV_e (c : Int) (hc : c ≠ 0) (q : Ps) : (failV c q).e ≠ 0 := by
  unfold failV
  by_cases he : q.e = 0
  · rw [if_pos he]; exact hc
  · rw [if_neg he]; exact he
theorem failV_two (q : Ps) : failV 160 (failV 160 q) = failV 160 q := failV_err (failV_e 160 (by decide) q) 160
/-- A further parameter, and none. -/
theorem HV_first {ts : List Tn} (f : Nat) (l : List Tr) (q : Ps) (hn : isV ts q shutR = false) :
    ((pkT ts q).k = 3 → HV ts true f l q = HV ts false ts.length (l ++ [.mk 3 (pkT ts q).s 0 [] []]) q.next) ∧
    ((pkT ts q).k ≠ 3 → wantV ts shutR (failV 160 q) = wantV ts shutR (HV ts true f l q).2) := by
  constructor
  · intro hk
    show (if isV ts q shutR = true then (l, q) else sevL ts cma (varV ts) ts.length (l ++ [(varV ts q).1]) (varV ts q).2) = sevL ts cma (varV ts) ts.length _ _
    rw [hn, if_neg (by decide), varV, nameV_yes hk]
  · intro hk
    show _ = wantV ts shutR (if isV ts q shutR = true then (l, q) else sevL ts cma (varV ts) ts.length (l ++ [(varV ts q).1]) (varV ts q).2).2
    rw [hn, if_neg (by decide), varV, nameV_no hk, sevL_err (failV_e 160 (by decide) q)]
theorem HV_next {ts : List Tn} (f : Nat) (l : List Tr) (q : Ps) (hn : isV ts q shutR = false) (hf : ts.length ≤ f + q.i) :
    ((pkT ts (wantV ts cma q)).k = 3 → ∃ fu, ts.length ≤ fu + (q.i + 1) ∧ HV ts false f l q = HV ts false fu (l ++ [.mk 3 (pkT ts (wantV ts cma q)).s 0 [] []]) (wantV ts cma q).next) ∧
    ((pkT ts (wantV ts cma q)).k ≠ 3 → wantV ts shutR (failV 160 (wantV ts cma q)) = wantV ts shutR (HV ts false f l q).2) := by
  by_cases hc : isV ts q cma = true
  · have e : wantV ts cma q = q.next := by rw [wantV, if_pos hc]
    have hl := isV_lt' hc
    obtain ⟨fu, rfl⟩ : ∃ fu, f = fu + 1 := ⟨f - 1, by omega⟩
    rw [e]
    constructor
    · intro hk
      refine ⟨fu, by omega, ?_⟩
      show sevL ts cma (varV ts) (fu + 1) l q = sevL ts cma (varV ts) fu _ _
      rw [sevL, if_pos hc, varV, nameV_yes hk]
    · intro hk
      show _ = wantV ts shutR (sevL ts cma (varV ts) (fu + 1) l q).2
      rw [sevL, if_pos hc, varV, nameV_no hk, sevL_err (failV_e 160 (by decide) q.next)]
  · have e : wantV ts cma q = failV 160 q := by rw [wantV, if_neg hc]
    rw [e]
    constructor
    · intro hk
      rw [pkT_err (failV_e 160 (by decide) q)] at hk
      exact absurd hk (by decide)
    · intro _
      have e2 : HV ts false f l q = (l, q) := by
        show sevL ts cma (varV ts) f l q = _
        cases f with
        | zero => rfl
        | succ f => rw [sevL, if_neg hc]
      rw [failV_two, wantV_err (failV_e 160 (by decide) q), e2]
      show failV 160 q = wantV ts shutR q
      rw [wantV, hn, if_neg (by decide)]
/-- What the reference's fun answers, for an atom ahead. -/
theorem fun_spec {ts : List Tn} {ex : Rule} {q : Ps} (hk : (pkT ts q).k = 2) : funV ts ex q = (.mk 17 (pkT ts q).s 0 [] ((HV ts true 0 [] (wantV ts opn q.next)).1 ++ [(bodyV ts ex (wantV ts arw (wantV ts shutR (HV ts true 0 [] (wantV ts opn q.next)).2))).1]), wantV ts dot (bodyV ts ex (wantV ts arw (wantV ts shutR (HV ts true 0 [] (wantV ts opn q.next)).2))).2) := by
  unfold funV parV
  rw [nameV_yes hk, HV_upto]
  rfl
/-- And for no atom. -/
theorem fun_bad {ts : List Tn} {ex : Rule} {q : Ps} (hse : Stuck ex) (hk : (pkT ts q).k ≠ 2) : (funV ts ex q).2 = failV 160 q := by
  unfold funV parV
  have he := failV_e 160 (by decide) q
  rw [nameV_no hk, wantV_err he, uptoV_err varV_err he, arrowV_err hse _ he, wantV_err he]
/-- A tree put behind: the worlds ahead of the append. -/
theorem app1_x {w6 X : World} {b : Nat} {q3 : Ps} {U : Tr} {bk bn : Int} {bs : ByteArray} {v1 v2 : Value} {A : Nat → Prop} {y0 y1 y2 y3 : Value} (h0 : w6.heap[b]? = some (.cells #[y0, y1, y2, y3] 45 (0, 0)))
    (hX : ((set4 w6 b (.slice x.a x.ts.length x.c) (.int .i64 (q3.i : Int)) (.int .i64 (q3.d : Int)) (.int .i64 q3.e)).alloc (.cells #[.int .i64 bk, .string bs, .int .i64 bn, v1, v2] 30)).alloc (.cells #[.int .i64 bk, .string bs, .int .i64 bn, v1, v2] 30) = X)
    (hA : ∀ z, A z → z ≠ b) (hU : q3.e = 0 → Rep A w6 U (trv bk bs bn v1 v2)) :
    Gr (fun k => k = b) w6 X ∧ X.heap[b]? = some (stb x q3) ∧ X.heap.size = w6.heap.size + 2 ∧ (∀ j u, [.int .i64 bk, .string bs, .int .i64 bn, v1, v2][j]? = some u → X.cell? ((⟨w6.heap.size + 1, 0, none⟩ : Addr).add j) = some u) ∧
      (q3.e = 0 → Rep A X U (trv bk bs bn v1 v2)) := by
  have g1 := set4_gr w6 b (.slice x.a x.ts.length x.c) (.int .i64 (q3.i : Int)) (.int .i64 (q3.d : Int)) (.int .i64 q3.e)
  have k1 := set4_heap h0 (.slice x.a x.ts.length x.c) (.int .i64 (q3.i : Int)) (.int .i64 (q3.d : Int)) (.int .i64 q3.e)
  have z1 : (set4 w6 b (.slice x.a x.ts.length x.c) (.int .i64 (q3.i : Int)) (.int .i64 (q3.d : Int)) (.int .i64 q3.e)).heap.size = w6.heap.size := by simp
  generalize set4 w6 b _ _ _ _ = wa at g1 k1 z1 hX
  have g3 := Gr.alloc wa (.cells #[.int .i64 bk, .string bs, .int .i64 bn, v1, v2] 30) (fun _ => False)
  have z3 : (wa.alloc (.cells #[.int .i64 bk, .string bs, .int .i64 bn, v1, v2] 30)).heap.size = w6.heap.size + 1 := by simp [z1]
  have k3 := g3.keep k1 (fun e => e)
  generalize wa.alloc _ = wc at g3 z3 k3 hX
  have hc := cell_five_new wc (.int .i64 bk) (.string bs) (.int .i64 bn) v1 v2 30
  rw [z3] at hc
  have g5 := Gr.alloc wc (.cells #[.int .i64 bk, .string bs, .int .i64 bn, v1, v2] 30) (fun _ => False)
  have gt : Gr (fun k => k = b) w6 (wc.alloc (.cells #[.int .i64 bk, .string bs, .int .i64 bn, v1, v2] 30)) := (g1.trans (g3.any _)).trans (g5.any _)
  subst hX
  exact ⟨gt, g5.keep k3 (fun e => e), by simp [z3], hc, fun e => (hU e).turn (fun z hz hl => ⟨hz, gt.block z hl (fun e => hA z hz e)⟩)⟩
end Go.Proofs.YtggkjkkbkpnkiaaGreatDoor

namespace Go.Proofs.YtggkjkkbkpnkiaaGreatDoor
open Go.RowKit Go.Maps
variable {x : Kx} {W W' : World} {p p' : Ps}
/-- How fun ends: where nothing is wrong it has gone on. -/
def EndF (x : Kx) (W : World) (p : Ps) (e : Ending) (w' : World) (r : Tr × Ps) : Prop := EndX x W p e w' r ∧ (r.2.e = 0 → p.i < r.2.i)
set_option maxRecDepth 100000 in
set_option maxHeartbeats 1200000 in
theorem rfun_bad (d : Nat) (ex : Rule) (hse : Stuck ex) (h : Rz x W p) (hd : p.d = d) (hk : (pkT x.ts p).k ≠ 2) : Calls Tryz.prog 13 #[stv x p] W fun e w' => EndF x W p e w' (funV x.ts ex p) := by
  obtain ⟨g0, b0, b1, b2, hz0⟩ := open3 (x := x) W p
  obtain ⟨b, hb⟩ : ∃ b, W.heap.size = b := ⟨_, rfl⟩
  have Hd := Lib.hid hd
  have hbW := Lib.hid hb
  have hNb : Hid (x.N ≤ b) := by have := h.hN; show _ ≤ _; omega
  have R0 := Lib.hid (h.g0 g0)
  have hkind := rkind_c (h.g0 g0)
  obtain ⟨r, hr⟩ : ∃ r : Tr × Ps, r = funV x.ts ex p := ⟨_, rfl⟩
  rw [← hr]
  obtain ⟨s, hs⟩ : ∃ s, s = failV 160 p := ⟨_, rfl⟩
  have Hr : Hid (r.2 = s) := by show r.2 = s; rw [hr, hs]; exact fun_bad hse hk
  have hF : Hid (s.d = p.d ∧ p.i ≤ s.i ∧ s.i ≤ x.ts.length ∧ s.e ≠ 0) := by
    have h1 := failV_same 160 p
    have h2 := h.hi
    rw [hs]
    exact ⟨h1.2, by omega, by omega, failV_e 160 (by decide) p⟩
  have hbad := Lib.hid (fun w => rbad_c (x := x) w p 160)
  rw [← hs] at hbad
  generalize (pkT x.ts p).k = k at hkind hk
  have qk : (k != 2) = true := by rw [bne_iff_ne]; exact hk
  have qk' : (k == 2) = false := by simpa using hk
  replace hk := Lib.hid hk
  clear hd h hr hs
  go_enter Tryz.func13, Tryz.ntmps13
  go_wp2_with fail
  generalize ((W.alloc _).alloc _).alloc _ = W1 at g0 b0 b1 b2 hz0 R0 hkind ⊢
  rw [hb] at b0 b1 b2 hz0
  refine hkind.mono ?_
  rintro e w2 ⟨rfl, g2⟩
  have C0 := g2.keep b0 (fun e => e)
  have C1 := g2.keep b1 (fun e => e)
  have C2 := g2.keep b2 (fun e => e)
  have G2' := g0.trans g2
  obtain ⟨⟨c0, c1, c2, c3⟩, f0, f1, f2, f3⟩ := four_cells C0
  have hbl : b < w2.heap.size := (Array.getElem?_eq_some_iff.1 C0).1
  clear b0 b1 b2 g0 g2 hkind R0
  go_wp2_with fail
  refine (hbad.out w2).mono ?_
  rintro e w5 ⟨rfl, g5⟩
  have D1 := g5.keep C1 (fun e => e)
  have D2 := g5.keep C2 (fun e => e)
  obtain ⟨rt, rq⟩ := r
  have hrq : rq = s := Hr.out
  subst hrq
  obtain ⟨E1, E2, E3, E4⟩ := end3 (x := x) (q := rq) (T := rt) (k := 0) (s := e0) (n := 0) (bv := nl) (lv := nl) (G2'.trans g5) hbW.out D1 D2 (fun he => absurd he hF.out.2.2.2)
  obtain ⟨wF, hwF⟩ : ∃ wF, set5 (set4 w5 (b + 1) (.slice x.a x.ts.length x.c) (.int .i64 (rq.i : Int)) (.int .i64 (rq.d : Int)) (.int .i64 rq.e)) (b + 2) (.int .i64 0) (.string e0) (.int .i64 0) (nl) (nl) = wF := ⟨_, rfl⟩
  rw [hwF] at E1 E2 E3 E4
  replace E1 := Lib.hid E1
  replace E2 := Lib.hid E2
  replace E3 := Lib.hid E3
  replace E4 := Lib.hid E4
  replace hwF := Lib.hid hwF
  obtain ⟨⟨y0, y1, y2, y3⟩, v0, v1, v2, v3⟩ := four_cells D1
  obtain ⟨⟨m0, m1, m2, m3, m4⟩, o0, o1, o2, o3, o4⟩ := five_cells D2
  have hlz : b + 2 < w5.heap.size := (Array.getElem?_eq_some_iff.1 D2).1
  have hlz' : b + 1 < w5.heap.size := by omega
  clear c0 c1 c2 c3 f0 f1 f2 f3 D1 D2 C1 C2 G2' g5
  go_wp2_with fail
  rw [show ((((((((w5.setCell ⟨b + 1, 0, none⟩ (.slice x.a x.ts.length x.c)).setCell ⟨b + 1, 1, none⟩ (.int .i64 (rq.i : Int))).setCell ⟨b + 1, 2, none⟩ (.int .i64 (rq.d : Int))).setCell ⟨b + 1, 3, none⟩ (.int .i64 rq.e)).setCell ⟨b + 1 + 1, 0, none⟩ (.int .i64 0)).setCell ⟨b + 1 + 1, 1, none⟩ (.string e0)).setCell ⟨b + 1 + 1, 2, none⟩ (.int .i64 0)).setCell ⟨b + 1 + 1, 3, none⟩ (nl)).setCell ⟨b + 1 + 1, 4, none⟩ (nl) = wF from hwF.out]
  clear y0 y1 y2 y3 v0 v1 v2 v3 m0 m1 m2 m3 m4 o0 o1 o2 o3 o4
  have E1' := E1.out
  have E2' : wF.heap[b + 1 + 1]? = some (.cells #[.int .i64 0, .string e0, .int .i64 0, nl, nl] 30 (0, 0)) := E2.out
  obtain ⟨⟨t0, t1, t2, t3⟩, _⟩ := four_cells E1'
  obtain ⟨⟨s0, s1, s2, s3, s4⟩, _⟩ := five_cells E2'
  refine bodyPost_ret (v := .tuple #[stv x rq, trv (0) (e0) (0) (nl) (nl)]) (by simp [results, Tryz.results13, go_sem, t0, t1, t2, t3, s0, s1, s2, s3, s4]) rfl ⟨⟨0, e0, 0, none, 0, 0, none, 0, 0, rfl, E3.out, ⟨hF.out.1, hF.out.2.1, hF.out.2.2.1⟩, E4.out⟩, fun he => absurd he hF.out.2.2.2⟩
set_option maxRecDepth 100000 in
set_option maxHeartbeats 3200000 in
theorem rfun_atom (d : Nat) (ex : Rule) (hex : ROk x 39 d ex) (hse : Stuck ex) (h : Rz x W p) (hd : p.d = d) (hk : (pkT x.ts p).k = 2) : Calls Tryz.prog 13 #[stv x p] W fun e w' => EndF x W p e w' (funV x.ts ex p) := by
  obtain ⟨g0, b0, b1, b2, hz0⟩ := open3 (x := x) W p
  obtain ⟨b, hb⟩ : ∃ b, W.heap.size = b := ⟨_, rfl⟩
  have Hd := Lib.hid hd
  have hbW := Lib.hid hb
  have hNb : Hid (x.N ≤ b) := by have := h.hN; show _ ≤ _; omega
  have R0 := Lib.hid (h.g0 g0)
  have hnz : (pkT x.ts p).k ≠ 0 := by rw [hk]; decide
  obtain ⟨he, hl⟩ := kind_lt hnz
  have hkind := rkind_c (h.g0 g0)
  rw [hk] at hkind
  have hi := h.hi
  have hm := h.hm
  have hRm := Lib.hid h.hm
  obtain ⟨i0, hi0, hz0', hz1, hz2⟩ := info_parts info25
  replace he := Lib.hid he
  obtain ⟨r, hr⟩ : ∃ r : Tr × Ps, r = funV x.ts ex p := ⟨_, rfl⟩
  rw [← hr]
  rw [fun_spec hk] at hr
  obtain ⟨PL, hPL⟩ : ∃ PL, PL = HV x.ts true 0 [] (wantV x.ts opn p.next) := ⟨_, rfl⟩
  rw [← hPL] at hr
  replace hr := Lib.hid hr
  replace hPL := Lib.hid hPL
  clear hd h hnz
  go_enter Tryz.func13, Tryz.ntmps13
  go_wp2_with fail
  generalize ((W.alloc _).alloc _).alloc _ = W1 at g0 b0 b1 b2 hz0 R0 hkind ⊢
  rw [hb] at b0 b1 b2 hz0
  refine hkind.mono ?_
  rintro e w2 ⟨rfl, g2⟩
  have C0 := g2.keep b0 (fun e => e)
  have C1 := Lib.hid (g2.keep b1 (fun e => e))
  have C2 := Lib.hid (g2.keep b2 (fun e => e))
  have R2 := R0.out.g0 g2
  have G2' := Lib.hid (g0.trans g2)
  have hbw : b < w2.heap.size := (Array.getElem?_eq_some_iff.1 C0).1
  have hbw2 : Hid (b + 3 ≤ w2.heap.size) := by have := g2.size; show _ ≤ _; omega
  obtain ⟨ht, hrow, g, o, hxa, hgN, hc⟩ := R2.at he.out hl
  obtain ⟨T, hT⟩ : ∃ T, pkT x.ts p = T := ⟨_, rfl⟩
  rw [hT] at hc hr
  have Hr : Hid (r = (.mk 17 T.s 0 [] (PL.1 ++ [(bodyV x.ts ex (wantV x.ts arw (wantV x.ts shutR PL.2))).1]), wantV x.ts dot (bodyV x.ts ex (wantV x.ts arw (wantV x.ts shutR PL.2))).2)) := hr.out
  have t0 : w2.cell? ⟨g, o + p.i * 5, none⟩ = _ := hc 0 _ rfl
  have t1 := hc 1 _ rfl
  have hgl : g < w2.heap.size := World.block_lt_of_cell? _ _ t0
  obtain ⟨⟨c0', c1, c2, c3⟩, f0, f1, f2, f3⟩ := four_cells C0
  have c0 : w2.cell? ⟨b, 0, none⟩ = some (.slice (some ⟨g, o, none⟩) x.ts.length x.c) := by rw [← hxa]; exact c0'
  obtain ⟨gX, X0, XT, hsX⟩ := tok_new (x := x) (T := T) (v := nl) (o := .cells #[.int .i64 17, .string T.s, .int .i64 0, nl, nl] 30) C0 rfl
  have hiI : (p.i : Int) ≤ 100000 := by omega
  have hNb' := hNb.out
  have RX : Hid (Rz x _ p.next) := (R2.gr gX (fun k hk e => by omega)).to (by show p.i + 1 ≤ _; omega) R2.hd
  have X1 := Lib.hid (gX.keep C1.out (by omega))
  have X2 := Lib.hid (gX.keep C2.out (by omega))
  have GX := Lib.hid (G2'.out.trans' gX (fun k hk e => by have := hbW.out; omega))
  have hw0 := Lib.hid (rwant_c RX.out opn)
  have hi0w := Lib.hid (wantV_i x.ts opn p.next RX.out.hi)
  have Hxa := Lib.hid hxa
  generalize wantV x.ts opn p.next = p1 at hw0 hi0w hPL
  clear hr C0 c0' hc ht hrow hxa b0 b1 b2 g0 g2 R0 R2 C1 C2 G2' hkind hk hT
  go_wp2_with fail
  generalize (w2.setCell ⟨b, 1, none⟩ (.int .i64 ((p.i : Int) + 1))).alloc _ = X at gX X0 XT hsX RX X1 X2 GX hw0 ⊢
  obtain ⟨tb, htb⟩ : ∃ tb, w2.heap.size = tb := ⟨_, rfl⟩
  rw [htb] at XT hsX hbw2 ⊢
  clear gX
  rw [← Hxa.out]
  refine hw0.out.mono ?_
  rintro e w3 ⟨rfl, g3⟩
  have hbt : Hid (b + 3 ≤ tb) := hbw2
  have K0 := Lib.hid (g3.keep X0 (fun e => e))
  have K1 := Lib.hid (g3.keep X1.out (fun e => e))
  have K2 := Lib.hid (g3.keep X2.out (fun e => e))
  have KT := Lib.hid (g3.keep XT (fun e => e))
  have KG := Lib.hid (GX.out.trans g3)
  have KR := Lib.hid (RX.out.g0 g3)
  have KL : Hid (LrE (tb + 1) (fun z => tb + 1 ≤ z) w3 [] nl p.next) := LrE.nil (by have := g3.size; omega)
  have hwp : Hid (p1.d = p.d ∧ p.i ≤ p1.i ∧ p1.i ≤ x.ts.length) := by
    have h1 := hi0w.out
    have h2 : p.next.i = p.i + 1 := rfl
    have h3 : p.next.d = p.d := rfl
    exact ⟨by omega, by omega, h1.2.2.1⟩
  clear c0 c1 c2 c3 f0 f1 f2 f3 t0 t1 hiI hbw X0 X1 X2 XT GX RX g3 hw0 hsX hbw2 htb hgl
  have gs : Gr (fun k => k = b) w3 ((((w3.setCell ⟨b, 0, none⟩ (.slice x.a x.ts.length x.c)).setCell ⟨b, 1, none⟩ (.int .i64 (p1.i : Int))).setCell ⟨b, 2, none⟩ (.int .i64 (p1.d : Int))).setCell ⟨b, 3, none⟩ (.int .i64 p1.e)) := set4_gr w3 b (.slice x.a x.ts.length x.c) (.int .i64 (p1.i : Int)) (.int .i64 (p1.d : Int)) (.int .i64 p1.e)
  have N0 : Hid (((((w3.setCell ⟨b, 0, none⟩ (.slice x.a x.ts.length x.c)).setCell ⟨b, 1, none⟩ (.int .i64 (p1.i : Int))).setCell ⟨b, 2, none⟩ (.int .i64 (p1.d : Int))).setCell ⟨b, 3, none⟩ (.int .i64 p1.e)).heap[b]? = some (stb x p1)) := set4_heap K0.out (.slice x.a x.ts.length x.c) (.int .i64 (p1.i : Int)) (.int .i64 (p1.d : Int)) (.int .i64 p1.e)
  have hbt9 := hbt.out
  have N1 := Lib.hid (gs.keep K1.out (by omega))
  have N2 := Lib.hid (gs.keep K2.out (by omega))
  have NT := Lib.hid (gs.keep KT.out (by omega))
  have NR := Lib.hid ((KR.out.to (p' := p1) hi0w.out.2.2.1 (by have := hi0w.out.1; have := KR.out.hd; omega)).gr gs (fun k hk e => by have := hNb.out; omega))
  have NL := Lib.hid ((KL.out.st hi0w.out.2.1 hi0w.out.2.2.2).gr gs (fun k hk e => by have h8 : tb + 1 ≤ k := hk; omega))
  have NG := Lib.hid (KG.out.trans' gs (fun k hk e => by have := hbW.out; omega))
  obtain ⟨⟨c0, c1, c2, c3⟩, f0, f1, f2, f3⟩ := four_cells K0.out
  have hbl : b < w3.heap.size := (Array.getElem?_eq_some_iff.1 K0.out).1
  clear gs K0 K1 K2 KT KR KL KG
  go_wp2_with fail
  generalize (((w3.setCell ⟨b, 0, none⟩ (.slice x.a x.ts.length x.c)).setCell ⟨b, 1, none⟩ (.int .i64 (p1.i : Int))).setCell ⟨b, 2, none⟩ (.int .i64 (p1.d : Int))).setCell ⟨b, 3, none⟩ (.int .i64 p1.e) = W3 at N0 N1 N2 NT NR NL NG  ⊢
  have K0 := N0
  have K1 := N1
  have K2 := N2
  have KT := NT
  have KR := NR
  have KL := NL
  have KG := NG
  clear N0 N1 N2 NT NR NL NG c0 c1 c2 c3 f0 f1 f2 f3 hbl hbt9
  go_loopw [5] (fun u wr => ∃ (fs : Bool) (l' : List Tr) (q : Ps) (f : Nat) (ua : Option Addr) (ul uc : Nat), u = .bool fs ∧ Hid (ul ≤ q.i) ∧ Hid (x.ts.length ≤ f + q.i) ∧ Hid (PL = HV x.ts fs f l' q) ∧ Hid (LrE (tb + 1) (fun z => tb + 1 ≤ z) wr l' (.slice ua ul uc) q) ∧ Rz x wr q ∧ wr.heap[b]? = some (stb x q) ∧ wr.heap[b + 1]? = some zs ∧ wr.heap[b + 2]? = some zt ∧ wr.heap[tb]? = some (.cells #[.int .i64 17, .string T.s, .int .i64 0, nl, .slice ua ul uc] 30 (0, 0)) ∧ Hid (q.d = p.d ∧ p.i ≤ q.i ∧ q.i ≤ x.ts.length) ∧ Hid (Gr (fun _ => False) W wr)) (fun u wr => x.ts.length - atP wr b)
  case atStart => exact ⟨true, [], p1, x.ts.length, none, 0, 0, rfl, Nat.zero_le _, by show _ ≤ _; omega, hPL, KL, KR.out, K0.out, K1.out, K2.out, KT.out, hwp, KG⟩
  case round =>
    clear KL KG K0 K1 K2 KT KR
    obtain ⟨fs, l', q, f, ua, ul, uc, rfl, hmx, hf, Hq, KL, hR, B0, B1, B2, BT, hq, KG⟩ := hrel
    have K0 := Lib.hid B0
    have K1 := Lib.hid B1
    have K2 := Lib.hid B2
    have KT := Lib.hid BT
    have KR := Lib.hid hR
    obtain ⟨⟨c0, c1, c2, c3⟩, f0, f1, f2, f3⟩ := four_cells B0
    have hbl : b < wr.heap.size := (Array.getElem?_eq_some_iff.1 B0).1
    have Hat : Hid (atP wr b = q.i) := by show _ = _; simp [atP, c1]
    clear B0 B1 B2 BT hR
    by_cases hqe : q.e = 0
    case neg =>
      have qe : (q.e == 0) = false := by simpa using hqe
      have Hx : Hid (wantV x.ts shutR q = wantV x.ts shutR PL.2 ∧ (q.e = 0 → l' = PL.1)) := ⟨by rw [Hq.out, HV_stop fs f l' q hqe], fun e => absurd e hqe⟩
      replace hqe := Lib.hid hqe
      clear Hq c0 c1 c2 f0 f1 f2 f3 c3 hbl
      have hw1 := Lib.hid (rwant_c KR.out shutR)
      have hi1 := Lib.hid (wantV_i x.ts shutR q KR.out.hi)
      have Hx1 : Hid (wantV x.ts shutR PL.2 = wantV x.ts shutR q) := Hx.out.1.symm
      have Hx2 : Hid (q.e = 0 → l' = PL.1) := Hx.out.2
      have HrR : Hid (r = (.mk 17 T.s 0 [] (PL.1 ++ [(bodyV x.ts ex (wantV x.ts arw (wantV x.ts shutR q))).1]), wantV x.ts dot (bodyV x.ts ex (wantV x.ts arw (wantV x.ts shutR q))).2)) := by
        show r = _
        rw [Hr.out, Hx1.out]
      generalize wantV x.ts shutR q = sa1 at hw1 hi1 HrR ⊢
      obtain ⟨⟨c0, c1, c2, c3⟩, f0, f1, f2, f3⟩ := four_cells K0.out
      have hbl : b < wr.heap.size := (Array.getElem?_eq_some_iff.1 K0.out).1
      clear Hx Hx1
      go_wp2_with fail
      refine hw1.out.mono ?_
      rintro e wa ⟨rfl, ga⟩
      clear c0 c1 c2 c3 f0 f1 f2 f3 hw1 hbl
      replace K0 := Lib.hid (ga.keep K0.out (fun e => e))
      replace K1 := Lib.hid (ga.keep K1.out (fun e => e))
      replace K2 := Lib.hid (ga.keep K2.out (fun e => e))
      replace KT := Lib.hid (ga.keep KT.out (fun e => e))
      replace KL := Lib.hid (KL.out.gr ga (fun _ _ e => e))
      replace KR := Lib.hid (KR.out.g0 ga)
      replace KG := Lib.hid (KG.out.trans ga)
      have gs : Gr (fun k => k = b) wa ((((wa.setCell ⟨b, 0, none⟩ (.slice x.a x.ts.length x.c)).setCell ⟨b, 1, none⟩ (.int .i64 (sa1.i : Int))).setCell ⟨b, 2, none⟩ (.int .i64 (sa1.d : Int))).setCell ⟨b, 3, none⟩ (.int .i64 sa1.e)) := set4_gr wa b (.slice x.a x.ts.length x.c) (.int .i64 (sa1.i : Int)) (.int .i64 (sa1.d : Int)) (.int .i64 sa1.e)
      have N0 : Hid (((((wa.setCell ⟨b, 0, none⟩ (.slice x.a x.ts.length x.c)).setCell ⟨b, 1, none⟩ (.int .i64 (sa1.i : Int))).setCell ⟨b, 2, none⟩ (.int .i64 (sa1.d : Int))).setCell ⟨b, 3, none⟩ (.int .i64 sa1.e)).heap[b]? = some (stb x sa1)) := set4_heap K0.out (.slice x.a x.ts.length x.c) (.int .i64 (sa1.i : Int)) (.int .i64 (sa1.d : Int)) (.int .i64 sa1.e)
      have hbt9 := hbt.out
      have N1 := Lib.hid (gs.keep K1.out (by omega))
      have N2 := Lib.hid (gs.keep K2.out (by omega))
      have NT := Lib.hid (gs.keep KT.out (by omega))
      have NR := Lib.hid ((KR.out.to (p' := sa1) hi1.out.2.2.1 (by have := hi1.out.1; have := KR.out.hd; omega)).gr gs (fun k hk e => by have := hNb.out; omega))
      have NL := Lib.hid ((KL.out.st hi1.out.2.1 hi1.out.2.2.2).gr gs (fun k hk e => by have h8 : tb + 1 ≤ k := hk; omega))
      have NG := Lib.hid (KG.out.trans' gs (fun k hk e => by have := hbW.out; omega))
      obtain ⟨⟨c0, c1, c2, c3⟩, f0, f1, f2, f3⟩ := four_cells K0.out
      have hbl : b < wa.heap.size := (Array.getElem?_eq_some_iff.1 K0.out).1
      clear gs K0 K1 K2 KT KR KL KG
      have hw2 := Lib.hid (rwant_c NR.out arw)
      have hi2 := Lib.hid (wantV_i x.ts arw sa1 NR.out.hi)
      generalize wantV x.ts arw sa1 = sb2 at hw2 hi2 HrR ⊢
      go_wp2_with fail
      generalize (((wa.setCell ⟨b, 0, none⟩ (.slice x.a x.ts.length x.c)).setCell ⟨b, 1, none⟩ (.int .i64 (sa1.i : Int))).setCell ⟨b, 2, none⟩ (.int .i64 (sa1.d : Int))).setCell ⟨b, 3, none⟩ (.int .i64 sa1.e) = wb at N0 N1 N2 NT NR NL NG hw2 ⊢
      have K0 := N0
      have K1 := N1
      have K2 := N2
      have KT := NT
      have KR := NR
      have KL := NL
      have KG := NG
      clear N0 N1 N2 NT NR NL NG c0 c1 c2 c3 f0 f1 f2 f3 hbl hbt9
      refine hw2.out.mono ?_
      rintro e wc ⟨rfl, gc⟩
      clear hw2
      replace K0 := Lib.hid (gc.keep K0.out (fun e => e))
      replace K1 := Lib.hid (gc.keep K1.out (fun e => e))
      replace K2 := Lib.hid (gc.keep K2.out (fun e => e))
      replace KT := Lib.hid (gc.keep KT.out (fun e => e))
      replace KL := Lib.hid (KL.out.gr gc (fun _ _ e => e))
      replace KR := Lib.hid (KR.out.g0 gc)
      replace KG := Lib.hid (KG.out.trans gc)
      have gs : Gr (fun k => k = b) wc ((((wc.setCell ⟨b, 0, none⟩ (.slice x.a x.ts.length x.c)).setCell ⟨b, 1, none⟩ (.int .i64 (sb2.i : Int))).setCell ⟨b, 2, none⟩ (.int .i64 (sb2.d : Int))).setCell ⟨b, 3, none⟩ (.int .i64 sb2.e)) := set4_gr wc b (.slice x.a x.ts.length x.c) (.int .i64 (sb2.i : Int)) (.int .i64 (sb2.d : Int)) (.int .i64 sb2.e)
      have N0 : Hid (((((wc.setCell ⟨b, 0, none⟩ (.slice x.a x.ts.length x.c)).setCell ⟨b, 1, none⟩ (.int .i64 (sb2.i : Int))).setCell ⟨b, 2, none⟩ (.int .i64 (sb2.d : Int))).setCell ⟨b, 3, none⟩ (.int .i64 sb2.e)).heap[b]? = some (stb x sb2)) := set4_heap K0.out (.slice x.a x.ts.length x.c) (.int .i64 (sb2.i : Int)) (.int .i64 (sb2.d : Int)) (.int .i64 sb2.e)
      have hbt9 := hbt.out
      have N1 := Lib.hid (gs.keep K1.out (by omega))
      have N2 := Lib.hid (gs.keep K2.out (by omega))
      have NT := Lib.hid (gs.keep KT.out (by omega))
      have NR := Lib.hid ((KR.out.to (p' := sb2) hi2.out.2.2.1 (by have := hi2.out.1; have := KR.out.hd; omega)).gr gs (fun k hk e => by have := hNb.out; omega))
      have NL := Lib.hid ((KL.out.st hi2.out.2.1 hi2.out.2.2.2).gr gs (fun k hk e => by have h8 : tb + 1 ≤ k := hk; omega))
      have NG := Lib.hid (KG.out.trans' gs (fun k hk e => by have := hbW.out; omega))
      obtain ⟨⟨c0, c1, c2, c3⟩, f0, f1, f2, f3⟩ := four_cells K0.out
      have hbl : b < wc.heap.size := (Array.getElem?_eq_some_iff.1 K0.out).1
      clear gs K0 K1 K2 KT KR KL KG
      have hw3 := Lib.hid (rbody_c d ex hex _ sb2 NR.out (by have := hi2.out; have := hi1.out; have := hq.out; have := Hd.out; omega))
      have hse3 : Hid ((bodyV x.ts ex sb2).2.e = 0 → sb2.e = 0) := fun e => by
        by_cases h0 : sb2.e = 0
        · exact h0
        · have e1 : (bodyV x.ts ex sb2).2 = sb2 := sevV_err hse h0 cma
          rw [e1] at e
          exact e
      go_wp2_with fail
      generalize (((wc.setCell ⟨b, 0, none⟩ (.slice x.a x.ts.length x.c)).setCell ⟨b, 1, none⟩ (.int .i64 (sb2.i : Int))).setCell ⟨b, 2, none⟩ (.int .i64 (sb2.d : Int))).setCell ⟨b, 3, none⟩ (.int .i64 sb2.e) = wd at N0 N1 N2 NT NR NL NG hw3 ⊢
      have K0 := N0
      have K1 := N1
      have K2 := N2
      have KT := NT
      have KR := NR
      have KL := NL
      have KG := NG
      clear N0 N1 N2 NT NR NL NG c0 c1 c2 c3 f0 f1 f2 f3 hbl hbt9
      refine hw3.out.mono ?_
      rintro e we ⟨bk, bs, bn, b1', m1, d1, b2', m2, d2, rfl, rep8, hi8, g8⟩
      generalize (bodyV x.ts ex sb2).2 = sc3 at HrR rep8 hi8 hse3 ⊢
      generalize (bodyV x.ts ex sb2).1 = U at HrR rep8 ⊢
      have Hi8 := Lib.hid hi8
      have hown : Hid (∀ k, (Value.slice ua ul uc).ownBlock = some k → k < wd.heap.size) := by
        obtain ⟨_, _, _, hr3, _⟩ := KL.out
        exact fun k hk => (ownsRow_lt hr3 k hk).2
      have htbd : Hid (tb + 1 ≤ wd.heap.size) := (Array.getElem?_eq_some_iff.1 KT.out).1
      have rU : Hid (sc3.e = 0 → Rep (fun z => tb + 1 ≤ z ∧ (Value.slice ua ul uc).ownBlock ≠ some z) we U (trv bk bs bn (.slice b1' m1 d1) (.slice b2' m2 d2))) := fun e => (rep8 e).turn (fun z hz hl => by
        have h7 : wd.heap.size ≤ z := hz
        refine ⟨⟨by have := htbd.out; omega, fun e => ?_⟩, rfl⟩
        have := hown.out z e
        omega)
      replace K0 := Lib.hid (g8.keep K0.out (fun e => e))
      replace K1 := Lib.hid (g8.keep K1.out (fun e => e))
      replace K2 := Lib.hid (g8.keep K2.out (fun e => e))
      replace KT := Lib.hid (g8.keep KT.out (fun e => e))
      replace KL := Lib.hid (KL.out.gr g8 (fun _ _ e => e))
      replace KR := Lib.hid (KR.out.g0 g8)
      replace KG := Lib.hid (KG.out.trans g8)
      obtain ⟨⟨c0, c1, c2, c3⟩, f0, f1, f2, f3⟩ := four_cells K0.out
      obtain ⟨⟨n0, n1, n2, n3, n4⟩, l0, l1, l2, l3, l4⟩ := five_cells KT.out
      have hbl : b < we.heap.size := (Array.getElem?_eq_some_iff.1 K0.out).1
      have htl : tb < we.heap.size := (Array.getElem?_eq_some_iff.1 KT.out).1
      have hbt9 := hbt.out
      have hn1 : tb ≠ b := by omega
      have hn2 : b ≠ tb := by omega
      have hmq : Hid (ul ≤ sb2.i) := by have := hmx.out; have := hi1.out; have := hi2.out; show _ ≤ _; omega
      have hs2l : Hid (sb2.i ≤ x.ts.length) := hi2.out.2.2.1
      clear hw3 rep8 hi8 g8
      go_wp2_with (first
        | (at_builtin; generalize hX : World.alloc (World.alloc (World.setCell _ _ _) _) _ = X; obtain ⟨gX, X0, Xs, Xc, XU⟩ := app1_x (A := fun z => tb + 1 ≤ z ∧ (Value.slice ua ul uc).ownBlock ≠ some z) (U := U) K0.out hX (fun z hz => by omega) rU.out; obtain ⟨hLb, m, xs, hrow, hm, hownX, hreps⟩ := (KL.out.gr gX (fun k hk e => by have h8 : tb + 1 ≤ k := hk; omega)); obtain ⟨_, _, hsv⟩ := ownsRow_sv hrow; have hul : ul = m := (by cases hsv; rfl); subst hul; clear hsv; have HXU := Lib.hid XU; have HrX := Lib.hid hreps; have HoX := Lib.hid hownX; clear XU hreps hownX; refine wpList_own2 _ rfl 28 _ _ rfl (tb + 1) 30 i0 (trv 0 e0 0 nl nl) 5 80 Tryz.underlying28 hi0 hz0' hz1 hz2 rfl (by decide) (.slice ua ul uc) ul xs ⟨we.heap.size + 1, 0, none⟩ 1 1 [.int .i64 bk, .string bs, .int .i64 bn, .slice b1' m1 d1, .slice b2' m2 d2] rfl rfl hrow rfl Xc (by simp [Value.oneCell']) (by unfold maxLen; have := hmq.out; have := hRm.out; have := hs2l.out; omega) (by have := hmq.out; have := hRm.out; have := hs2l.out; omega) (by omega) ?_; intro v' w9 hrow9 hgr9 hloc9; obtain ⟨a9, cap9, rfl⟩ := ownsRow_sv hrow9; clear hX; have Gg : Gr (fun k => (Value.slice ua ul uc).ownBlock = some k) X w9 := Gr.of_grown hgr9 (fun z e => e); have n9 : w9.heap[tb]? = some (.cells #[.int .i64 17, .string T.s, .int .i64 0, nl, .slice ua ul uc] 30 (0, 0)) := Gg.keep (gX.keep KT.out (by omega)) (fun e => by have h8 : tb + 1 ≤ tb := HoX.out tb e; omega); have K9 := Lib.hid n9; obtain ⟨⟨q0, q1, q2, q3, q4⟩, qf0, qf1, qf2, qf3, qf4⟩ := five_cells n9; have htl9 : tb < w9.heap.size := (Array.getElem?_eq_some_iff.1 n9).1; clear n9)
        | fail)
      have L9 : LrE (tb + 1) (fun z => tb + 1 ≤ z) w9 (l' ++ [U]) (.slice a9 (ul + 1) cap9) sc3 := LrE.grown (q := sb2) hLb hrow ⟨hmq.out, hm.2⟩ Hi8.out.2.1 HoX.out (fun z hz => by have h8 := hLb; show tb + 1 ≤ z; omega) (fun e => HrX.out e) (fun e => hse3.out e) (fun e => HXU.out e) hgr9 hloc9 hrow9 ⟨rfl, rfl⟩
      have gs4 : Gr (fun k => k = tb) w9 (w9.setCell ⟨tb, 4, none⟩ (.slice a9 (ul + 1) cap9)) := Gr.set _ _ _ rfl
      have ZT : (w9.setCell ⟨tb, 4, none⟩ (.slice a9 (ul + 1) cap9)).heap[tb]? = some (.cells #[.int .i64 17, .string T.s, .int .i64 0, nl, .slice a9 (ul + 1) cap9] 30 (0, 0)) := heap_setCell_same w9 tb 4 _ 30 _ K9.out
      have ZB := gs4.keep (Gg.keep X0 (fun e => by have h8 : tb + 1 ≤ b := HoX.out b e; omega)) hn2
      have Z1 := gs4.keep (Gg.keep (gX.keep K1.out (by omega)) (fun e => by have h8 : tb + 1 ≤ b + 1 := HoX.out _ e; omega)) (by omega)
      have Z2 := gs4.keep (Gg.keep (gX.keep K2.out (by omega)) (fun e => by have h8 : tb + 1 ≤ b + 2 := HoX.out _ e; omega)) (by omega)
      have ZG := ((KG.out.trans' gX (fun k hk e => by have := hbW.out; omega)).trans' Gg (fun k hk e => by have h8 : tb + 1 ≤ k := HoX.out k e; have := hbW.out; omega)).trans' gs4 (fun k hk e => by have := hbW.out; omega)
      have ZR : Rz x (w9.setCell ⟨tb, 4, none⟩ (.slice a9 (ul + 1) cap9)) sc3 := (((KR.out.gr gX (fun k hk e => by have := hNb.out; omega)).gr Gg (fun k hk e => by have h8 : tb + 1 ≤ k := HoX.out k e; have := hNb.out; omega)).gr gs4 (fun k hk e => by have := hNb.out; omega)).to Hi8.out.2.2 (by have := Hi8.out.1; have := KR.out.hd; omega)
      have ZL := L9.gr gs4 (fun k hk e => by have h8 : tb + 1 ≤ k := hk; omega)
      clear q0 q1 q2 q3 q4 qf0 qf1 qf2 qf3 qf4 htl9 c0 c1 c2 c3 f0 f1 f2 f3 n0 n1 n2 n3 n4 l0 l1 l2 l3 l4 hbl htl
      generalize w9.setCell ⟨tb, 4, none⟩ _ = Z at gs4 ZT ZB Z1 Z2 ZG ZR ZL ⊢
      clear gs4 L9 Gg gX X0 K0 K1 K2 KT KL KR KG K9
      have D0 : Z.drew.heap[b]? = some (stb x sc3) := ZB
      have D1 : Z.drew.heap[b + 1]? = some zs := Z1
      have D2 : Z.drew.heap[b + 2]? = some zt := Z2
      have DT : Z.drew.heap[tb]? = some (.cells #[.int .i64 17, .string T.s, .int .i64 0, nl, .slice a9 (ul + 1) cap9] 30 (0, 0)) := ZT
      have Gd : Hid (Gr (fun _ => False) W Z.drew) := ZG.trans (Gr.drew Z _)
      have Rd : Rz x Z.drew sc3 := ZR.g0 (Gr.drew Z _)
      have Ld := Lib.hid (ZL.gr (Gr.drew Z (fun _ => False)) (fun _ _ e => e))
      have hw4 := rwant_c Rd dot
      have hi4 := Lib.hid (wantV_i x.ts dot sc3 Rd.hi)
      have hgo0 := Lib.hid (want_adv x.ts dot sc3)
      generalize wantV x.ts dot sc3 = sd4 at hw4 hi4 HrR hgo0 ⊢
      have hgo : Hid (sd4.e = 0 → p.i < sd4.i) := fun e => by
        have h0 := hgo0.out e
        have h1 := hi1.out
        have h2 := hi2.out
        have h3 := Hi8.out
        have h5 := hq.out
        omega
      have hF : Hid (sd4.d = p.d ∧ p.i ≤ sd4.i ∧ sd4.i ≤ x.ts.length) := by
        have h1 := hi1.out
        have h2 := hi2.out
        have h3 := Hi8.out
        have h4 := hi4.out
        have h5 := hq.out
        exact ⟨by omega, by omega, h4.2.2.1⟩
      have hlx : Hid (sd4.e = 0 → l' = PL.1) := fun e => Hx2.out (hi1.out.2.2.2 (hi2.out.2.2.2 (hse3.out (hi4.out.2.2.2 e))))
      have TS : Gr (fun k => k = b + 1 ∨ k = b + 2) Z.drew Z.drew := Gr.refl _ _
      refine wp_region_L (L := 100) (T := fun w => Gr (fun k => k = b + 1 ∨ k = b + 2) Z.drew w) (by kernel_rfl) ?_
      generalize Z.drew = wx at TS D0 D1 D2 DT Gd Rd Ld hw4 ⊢
      obtain ⟨⟨d0, d1, d2, d3⟩, _⟩ := four_cells D0
      obtain ⟨⟨k0, k1, k2, k3, k4⟩, _⟩ := five_cells DT
      refine wpAnyN_at (i := 0) (v := (.agg #[.slice x.a x.ts.length x.c, .int .i64 (sc3.i : Int), .int .i64 (sc3.d : Int), .int .i64 sc3.e])) (some 76) rfl rfl (by kernel_rfl) (by kernel_rfl) (by kernel_rfl) (by kernel_rfl) (fun _ _ _ h => h) (Or.inl ⟨by rfl, ?_⟩) TS ?_
      · intro w hSw
        have qq0 := cell_gr d0 hSw (by show ¬ (_ ∨ _); omega)
        have qq1 := cell_gr d1 hSw (by show ¬ (_ ∨ _); omega)
        have qq2 := cell_gr d2 hSw (by show ¬ (_ ∨ _); omega)
        have qq3 := cell_gr d3 hSw (by show ¬ (_ ∨ _); omega)
        have qz := World.block_lt_of_cell? _ _ qq0
        go_simp
        try (intro h; exfalso; omega)
      try simp only [Act.put, List.setIfInBounds_toArray, List.set_cons_zero, List.set_cons_succ]
      refine wpAnyN_at (i := 2) (v := (.agg #[.int .i64 17, .string T.s, .int .i64 0, nl, .slice a9 (ul + 1) cap9])) (some 78) rfl rfl (by kernel_rfl) (by kernel_rfl) (by kernel_rfl) (by kernel_rfl) (fun _ _ _ h => h) (Or.inl ⟨by rfl, ?_⟩) TS ?_
      · intro w hSw
        have qq0 := cell_gr k0 hSw (by show ¬ (_ ∨ _); omega)
        have qq1 := cell_gr k1 hSw (by show ¬ (_ ∨ _); omega)
        have qq2 := cell_gr k2 hSw (by show ¬ (_ ∨ _); omega)
        have qq3 := cell_gr k3 hSw (by show ¬ (_ ∨ _); omega)
        have qq4 := cell_gr k4 hSw (by show ¬ (_ ∨ _); omega)
        have qz := World.block_lt_of_cell? _ _ qq0
        go_simp
        try (intro h; exfalso; omega)
      try simp only [Act.put, List.setIfInBounds_toArray, List.set_cons_zero, List.set_cons_succ]
      refine wpAnyL_one (i := 1) (by kernel_rfl) rfl (fun K hK => ?_)
      go_simp
      refine (hw4).mono ?_
      rintro e wy ⟨rfl, gy⟩
      refine hK.out _ _ (fun _ => gy.any _) ?_
      clear hK K
      try simp only [Act.put, List.setIfInBounds_toArray, List.set_cons_zero, List.set_cons_succ]
      have F1 := gy.keep D1 (fun e => e)
      have F2 := gy.keep D2 (fun e => e)
      have Ly := Ld.out.gr gy (fun _ _ e => e)
      have hRy : sd4.e = 0 → Rep (fun z => b + 3 ≤ z) wy (.mk 17 T.s 0 [] (PL.1 ++ [U])) (trv 17 T.s 0 nl (.slice a9 (ul + 1) cap9)) := fun he => by
        rw [← hlx.out he]
        exact (Ly.tree (hi4.out.2.2.2 he) 17 T.s).turn (fun z hz hl => ⟨by have h8 : tb + 1 ≤ z := hz; omega, rfl⟩)
      obtain ⟨E1, E2, E3, E4⟩ := end3 (x := x) (q := sd4) (T := (.mk 17 T.s 0 [] (PL.1 ++ [U]))) (k := 17) (s := T.s) (n := 0) (bv := nl) (lv := .slice a9 (ul + 1) cap9) (Gd.out.trans gy) hbW.out F1 F2 (hRy)
      obtain ⟨wF, hwF⟩ : ∃ wF, set5 (set4 wy (b + 1) (.slice x.a x.ts.length x.c) (.int .i64 (sd4.i : Int)) (.int .i64 (sd4.d : Int)) (.int .i64 sd4.e)) (b + 2) (.int .i64 17) (.string T.s) (.int .i64 0) (nl) (.slice a9 (ul + 1) cap9) = wF := ⟨_, rfl⟩
      rw [hwF] at E1 E2 E3 E4
      replace E1 := Lib.hid E1
      replace E2 := Lib.hid E2
      replace E3 := Lib.hid E3
      replace E4 := Lib.hid E4
      replace hwF := Lib.hid hwF
      obtain ⟨⟨y0, y1, y2, y3⟩, v0, v1, v2, v3⟩ := four_cells F1
      obtain ⟨⟨m0, m1, m2, m3, m4⟩, o0, o1, o2, o3, o4⟩ := five_cells F2
      have hlz : b + 2 < wy.heap.size := (Array.getElem?_eq_some_iff.1 F2).1
      have hlz' : b + 1 < wy.heap.size := by omega
      have TA : Gr (fun k => k = b + 1 ∨ k = b + 2) wx (set4 wy (b + 1) (.slice x.a x.ts.length x.c) (.int .i64 (sd4.i : Int)) (.int .i64 (sd4.d : Int)) (.int .i64 sd4.e)) := (gy.any _).trans' (set4_gr wy (b + 1) _ _ _ _) (fun _ _ e => .inl e)
      have TB : Gr (fun k => k = b + 1 ∨ k = b + 2) wx (set5 (set4 wy (b + 1) (.slice x.a x.ts.length x.c) (.int .i64 (sd4.i : Int)) (.int .i64 (sd4.d : Int)) (.int .i64 sd4.e)) (b + 2) (.int .i64 17) (.string T.s) (.int .i64 0) (nl) (.slice a9 (ul + 1) cap9)) := TA.trans' (set5_gr _ (b + 2) _ _ _ _ _) (fun _ _ e => .inr e)
      refine wpAnyL_one (i := 3) (by kernel_rfl) rfl (fun K hK => ?_)
      go_simp
      refine hK.out _ _ (fun _ => TA) ?_
      clear hK K
      try simp only [Act.put, List.setIfInBounds_toArray, List.set_cons_zero, List.set_cons_succ]
      refine wpAnyL_one (i := 4) (by kernel_rfl) rfl (fun K hK => ?_)
      go_simp
      refine hK.out _ _ (fun _ => TB) ?_
      clear hK K
      try simp only [Act.put, List.setIfInBounds_toArray, List.set_cons_zero, List.set_cons_succ]
      refine wpAnyL_done (by kernel_rfl) ?_ _
      refine NoPanic.normal ?_
      clear TS TA TB
      go_wp2_with fail
      rw [HrR.out]
      rw [show ((((((((wy.setCell ⟨b + 1, 0, none⟩ (.slice x.a x.ts.length x.c)).setCell ⟨b + 1, 1, none⟩ (.int .i64 (sd4.i : Int))).setCell ⟨b + 1, 2, none⟩ (.int .i64 (sd4.d : Int))).setCell ⟨b + 1, 3, none⟩ (.int .i64 sd4.e)).setCell ⟨b + 1 + 1, 0, none⟩ (.int .i64 17)).setCell ⟨b + 1 + 1, 1, none⟩ (.string T.s)).setCell ⟨b + 1 + 1, 2, none⟩ (.int .i64 0)).setCell ⟨b + 1 + 1, 3, none⟩ (nl)).setCell ⟨b + 1 + 1, 4, none⟩ (.slice a9 (ul + 1) cap9) = wF from hwF.out]
      clear y0 y1 y2 y3 v0 v1 v2 v3 m0 m1 m2 m3 m4 o0 o1 o2 o3 o4
      have E1' := E1.out
      have E2' : wF.heap[b + 1 + 1]? = some (.cells #[.int .i64 17, .string T.s, .int .i64 0, nl, .slice a9 (ul + 1) cap9] 30 (0, 0)) := E2.out
      obtain ⟨⟨t0, t1, t2, t3⟩, _⟩ := four_cells E1'
      obtain ⟨⟨s0, s1, s2, s3, s4⟩, _⟩ := five_cells E2'
      refine bodyPost_ret (v := .tuple #[stv x sd4, trv (17) (T.s) (0) (nl) (.slice a9 (ul + 1) cap9)]) (by simp [results, Tryz.results13, go_sem, t0, t1, t2, t3, s0, s1, s2, s3, s4]) rfl ⟨⟨17, T.s, 0, none, 0, 0, a9, ul + 1, cap9, rfl, E3.out, hF.out, E4.out⟩, hgo.out⟩
    case pos =>
      have qe : (q.e == 0) = true := by simp [hqe]
      replace hqe := Lib.hid hqe
      have his := ris_c KR.out shutR
      cases hs : isV x.ts q shutR with
      | true =>
        have Hx : Hid (wantV x.ts shutR q = wantV x.ts shutR PL.2 ∧ (q.e = 0 → l' = PL.1)) := by
          have e := HV_shut fs f l' q hs
          rw [← Hq.out] at e
          rw [e]
          exact ⟨rfl, fun _ => rfl⟩
        rw [hs] at his
        clear hs Hq hf
        go_wp2_with fail
        refine his.mono ?_
        rintro e w2z ⟨rfl, g2z⟩
        clear c0 c1 c2 c3 f0 f1 f2 f3 his hbl
        replace K0 := Lib.hid (g2z.keep K0.out (fun e => e))
        replace K1 := Lib.hid (g2z.keep K1.out (fun e => e))
        replace K2 := Lib.hid (g2z.keep K2.out (fun e => e))
        replace KT := Lib.hid (g2z.keep KT.out (fun e => e))
        replace KL := Lib.hid (KL.out.gr g2z (fun _ _ e => e))
        replace KR := Lib.hid (KR.out.g0 g2z)
        replace KG := Lib.hid (KG.out.trans g2z)
        have hw1 := Lib.hid (rwant_c KR.out shutR)
        have hi1 := Lib.hid (wantV_i x.ts shutR q KR.out.hi)
        have Hx1 : Hid (wantV x.ts shutR PL.2 = wantV x.ts shutR q) := Hx.out.1.symm
        have Hx2 : Hid (q.e = 0 → l' = PL.1) := Hx.out.2
        have HrR : Hid (r = (.mk 17 T.s 0 [] (PL.1 ++ [(bodyV x.ts ex (wantV x.ts arw (wantV x.ts shutR q))).1]), wantV x.ts dot (bodyV x.ts ex (wantV x.ts arw (wantV x.ts shutR q))).2)) := by
          show r = _
          rw [Hr.out, Hx1.out]
        generalize wantV x.ts shutR q = sa1 at hw1 hi1 HrR ⊢
        obtain ⟨⟨c0, c1, c2, c3⟩, f0, f1, f2, f3⟩ := four_cells K0.out
        have hbl : b < w2z.heap.size := (Array.getElem?_eq_some_iff.1 K0.out).1
        clear Hx Hx1
        go_wp2_with fail
        refine hw1.out.mono ?_
        rintro e wa ⟨rfl, ga⟩
        clear c0 c1 c2 c3 f0 f1 f2 f3 hw1 hbl
        replace K0 := Lib.hid (ga.keep K0.out (fun e => e))
        replace K1 := Lib.hid (ga.keep K1.out (fun e => e))
        replace K2 := Lib.hid (ga.keep K2.out (fun e => e))
        replace KT := Lib.hid (ga.keep KT.out (fun e => e))
        replace KL := Lib.hid (KL.out.gr ga (fun _ _ e => e))
        replace KR := Lib.hid (KR.out.g0 ga)
        replace KG := Lib.hid (KG.out.trans ga)
        have gs : Gr (fun k => k = b) wa ((((wa.setCell ⟨b, 0, none⟩ (.slice x.a x.ts.length x.c)).setCell ⟨b, 1, none⟩ (.int .i64 (sa1.i : Int))).setCell ⟨b, 2, none⟩ (.int .i64 (sa1.d : Int))).setCell ⟨b, 3, none⟩ (.int .i64 sa1.e)) := set4_gr wa b (.slice x.a x.ts.length x.c) (.int .i64 (sa1.i : Int)) (.int .i64 (sa1.d : Int)) (.int .i64 sa1.e)
        have N0 : Hid (((((wa.setCell ⟨b, 0, none⟩ (.slice x.a x.ts.length x.c)).setCell ⟨b, 1, none⟩ (.int .i64 (sa1.i : Int))).setCell ⟨b, 2, none⟩ (.int .i64 (sa1.d : Int))).setCell ⟨b, 3, none⟩ (.int .i64 sa1.e)).heap[b]? = some (stb x sa1)) := set4_heap K0.out (.slice x.a x.ts.length x.c) (.int .i64 (sa1.i : Int)) (.int .i64 (sa1.d : Int)) (.int .i64 sa1.e)
        have hbt9 := hbt.out
        have N1 := Lib.hid (gs.keep K1.out (by omega))
        have N2 := Lib.hid (gs.keep K2.out (by omega))
        have NT := Lib.hid (gs.keep KT.out (by omega))
        have NR := Lib.hid ((KR.out.to (p' := sa1) hi1.out.2.2.1 (by have := hi1.out.1; have := KR.out.hd; omega)).gr gs (fun k hk e => by have := hNb.out; omega))
        have NL := Lib.hid ((KL.out.st hi1.out.2.1 hi1.out.2.2.2).gr gs (fun k hk e => by have h8 : tb + 1 ≤ k := hk; omega))
        have NG := Lib.hid (KG.out.trans' gs (fun k hk e => by have := hbW.out; omega))
        obtain ⟨⟨c0, c1, c2, c3⟩, f0, f1, f2, f3⟩ := four_cells K0.out
        have hbl : b < wa.heap.size := (Array.getElem?_eq_some_iff.1 K0.out).1
        clear gs K0 K1 K2 KT KR KL KG
        have hw2 := Lib.hid (rwant_c NR.out arw)
        have hi2 := Lib.hid (wantV_i x.ts arw sa1 NR.out.hi)
        generalize wantV x.ts arw sa1 = sb2 at hw2 hi2 HrR ⊢
        go_wp2_with fail
        generalize (((wa.setCell ⟨b, 0, none⟩ (.slice x.a x.ts.length x.c)).setCell ⟨b, 1, none⟩ (.int .i64 (sa1.i : Int))).setCell ⟨b, 2, none⟩ (.int .i64 (sa1.d : Int))).setCell ⟨b, 3, none⟩ (.int .i64 sa1.e) = wb at N0 N1 N2 NT NR NL NG hw2 ⊢
        have K0 := N0
        have K1 := N1
        have K2 := N2
        have KT := NT
        have KR := NR
        have KL := NL
        have KG := NG
        clear N0 N1 N2 NT NR NL NG c0 c1 c2 c3 f0 f1 f2 f3 hbl hbt9
        refine hw2.out.mono ?_
        rintro e wc ⟨rfl, gc⟩
        clear hw2
        replace K0 := Lib.hid (gc.keep K0.out (fun e => e))
        replace K1 := Lib.hid (gc.keep K1.out (fun e => e))
        replace K2 := Lib.hid (gc.keep K2.out (fun e => e))
        replace KT := Lib.hid (gc.keep KT.out (fun e => e))
        replace KL := Lib.hid (KL.out.gr gc (fun _ _ e => e))
        replace KR := Lib.hid (KR.out.g0 gc)
        replace KG := Lib.hid (KG.out.trans gc)
        have gs : Gr (fun k => k = b) wc ((((wc.setCell ⟨b, 0, none⟩ (.slice x.a x.ts.length x.c)).setCell ⟨b, 1, none⟩ (.int .i64 (sb2.i : Int))).setCell ⟨b, 2, none⟩ (.int .i64 (sb2.d : Int))).setCell ⟨b, 3, none⟩ (.int .i64 sb2.e)) := set4_gr wc b (.slice x.a x.ts.length x.c) (.int .i64 (sb2.i : Int)) (.int .i64 (sb2.d : Int)) (.int .i64 sb2.e)
        have N0 : Hid (((((wc.setCell ⟨b, 0, none⟩ (.slice x.a x.ts.length x.c)).setCell ⟨b, 1, none⟩ (.int .i64 (sb2.i : Int))).setCell ⟨b, 2, none⟩ (.int .i64 (sb2.d : Int))).setCell ⟨b, 3, none⟩ (.int .i64 sb2.e)).heap[b]? = some (stb x sb2)) := set4_heap K0.out (.slice x.a x.ts.length x.c) (.int .i64 (sb2.i : Int)) (.int .i64 (sb2.d : Int)) (.int .i64 sb2.e)
        have hbt9 := hbt.out
        have N1 := Lib.hid (gs.keep K1.out (by omega))
        have N2 := Lib.hid (gs.keep K2.out (by omega))
        have NT := Lib.hid (gs.keep KT.out (by omega))
        have NR := Lib.hid ((KR.out.to (p' := sb2) hi2.out.2.2.1 (by have := hi2.out.1; have := KR.out.hd; omega)).gr gs (fun k hk e => by have := hNb.out; omega))
        have NL := Lib.hid ((KL.out.st hi2.out.2.1 hi2.out.2.2.2).gr gs (fun k hk e => by have h8 : tb + 1 ≤ k := hk; omega))
        have NG := Lib.hid (KG.out.trans' gs (fun k hk e => by have := hbW.out; omega))
        obtain ⟨⟨c0, c1, c2, c3⟩, f0, f1, f2, f3⟩ := four_cells K0.out
        have hbl : b < wc.heap.size := (Array.getElem?_eq_some_iff.1 K0.out).1
        clear gs K0 K1 K2 KT KR KL KG
        have hw3 := Lib.hid (rbody_c d ex hex _ sb2 NR.out (by have := hi2.out; have := hi1.out; have := hq.out; have := Hd.out; omega))
        have hse3 : Hid ((bodyV x.ts ex sb2).2.e = 0 → sb2.e = 0) := fun e => by
          by_cases h0 : sb2.e = 0
          · exact h0
          · have e1 : (bodyV x.ts ex sb2).2 = sb2 := sevV_err hse h0 cma
            rw [e1] at e
            exact e
        go_wp2_with fail
        generalize (((wc.setCell ⟨b, 0, none⟩ (.slice x.a x.ts.length x.c)).setCell ⟨b, 1, none⟩ (.int .i64 (sb2.i : Int))).setCell ⟨b, 2, none⟩ (.int .i64 (sb2.d : Int))).setCell ⟨b, 3, none⟩ (.int .i64 sb2.e) = wd at N0 N1 N2 NT NR NL NG hw3 ⊢
        have K0 := N0
        have K1 := N1
        have K2 := N2
        have KT := NT
        have KR := NR
        have KL := NL
        have KG := NG
        clear N0 N1 N2 NT NR NL NG c0 c1 c2 c3 f0 f1 f2 f3 hbl hbt9
        refine hw3.out.mono ?_
        rintro e we ⟨bk, bs, bn, b1', m1, d1, b2', m2, d2, rfl, rep8, hi8, g8⟩
        generalize (bodyV x.ts ex sb2).2 = sc3 at HrR rep8 hi8 hse3 ⊢
        generalize (bodyV x.ts ex sb2).1 = U at HrR rep8 ⊢
        have Hi8 := Lib.hid hi8
        have hown : Hid (∀ k, (Value.slice ua ul uc).ownBlock = some k → k < wd.heap.size) := by
          obtain ⟨_, _, _, hr3, _⟩ := KL.out
          exact fun k hk => (ownsRow_lt hr3 k hk).2
        have htbd : Hid (tb + 1 ≤ wd.heap.size) := (Array.getElem?_eq_some_iff.1 KT.out).1
        have rU : Hid (sc3.e = 0 → Rep (fun z => tb + 1 ≤ z ∧ (Value.slice ua ul uc).ownBlock ≠ some z) we U (trv bk bs bn (.slice b1' m1 d1) (.slice b2' m2 d2))) := fun e => (rep8 e).turn (fun z hz hl => by
          have h7 : wd.heap.size ≤ z := hz
          refine ⟨⟨by have := htbd.out; omega, fun e => ?_⟩, rfl⟩
          have := hown.out z e
          omega)
        replace K0 := Lib.hid (g8.keep K0.out (fun e => e))
        replace K1 := Lib.hid (g8.keep K1.out (fun e => e))
        replace K2 := Lib.hid (g8.keep K2.out (fun e => e))
        replace KT := Lib.hid (g8.keep KT.out (fun e => e))
        replace KL := Lib.hid (KL.out.gr g8 (fun _ _ e => e))
        replace KR := Lib.hid (KR.out.g0 g8)
        replace KG := Lib.hid (KG.out.trans g8)
        obtain ⟨⟨c0, c1, c2, c3⟩, f0, f1, f2, f3⟩ := four_cells K0.out
        obtain ⟨⟨n0, n1, n2, n3, n4⟩, l0, l1, l2, l3, l4⟩ := five_cells KT.out
        have hbl : b < we.heap.size := (Array.getElem?_eq_some_iff.1 K0.out).1
        have htl : tb < we.heap.size := (Array.getElem?_eq_some_iff.1 KT.out).1
        have hbt9 := hbt.out
        have hn1 : tb ≠ b := by omega
        have hn2 : b ≠ tb := by omega
        have hmq : Hid (ul ≤ sb2.i) := by have := hmx.out; have := hi1.out; have := hi2.out; show _ ≤ _; omega
        have hs2l : Hid (sb2.i ≤ x.ts.length) := hi2.out.2.2.1
        clear hw3 rep8 hi8 g8
        go_wp2_with (first
          | (at_builtin; generalize hX : World.alloc (World.alloc (World.setCell _ _ _) _) _ = X; obtain ⟨gX, X0, Xs, Xc, XU⟩ := app1_x (A := fun z => tb + 1 ≤ z ∧ (Value.slice ua ul uc).ownBlock ≠ some z) (U := U) K0.out hX (fun z hz => by omega) rU.out; obtain ⟨hLb, m, xs, hrow, hm, hownX, hreps⟩ := (KL.out.gr gX (fun k hk e => by have h8 : tb + 1 ≤ k := hk; omega)); obtain ⟨_, _, hsv⟩ := ownsRow_sv hrow; have hul : ul = m := (by cases hsv; rfl); subst hul; clear hsv; have HXU := Lib.hid XU; have HrX := Lib.hid hreps; have HoX := Lib.hid hownX; clear XU hreps hownX; refine wpList_own2 _ rfl 28 _ _ rfl (tb + 1) 30 i0 (trv 0 e0 0 nl nl) 5 80 Tryz.underlying28 hi0 hz0' hz1 hz2 rfl (by decide) (.slice ua ul uc) ul xs ⟨we.heap.size + 1, 0, none⟩ 1 1 [.int .i64 bk, .string bs, .int .i64 bn, .slice b1' m1 d1, .slice b2' m2 d2] rfl rfl hrow rfl Xc (by simp [Value.oneCell']) (by unfold maxLen; have := hmq.out; have := hRm.out; have := hs2l.out; omega) (by have := hmq.out; have := hRm.out; have := hs2l.out; omega) (by omega) ?_; intro v' w9 hrow9 hgr9 hloc9; obtain ⟨a9, cap9, rfl⟩ := ownsRow_sv hrow9; clear hX; have Gg : Gr (fun k => (Value.slice ua ul uc).ownBlock = some k) X w9 := Gr.of_grown hgr9 (fun z e => e); have n9 : w9.heap[tb]? = some (.cells #[.int .i64 17, .string T.s, .int .i64 0, nl, .slice ua ul uc] 30 (0, 0)) := Gg.keep (gX.keep KT.out (by omega)) (fun e => by have h8 : tb + 1 ≤ tb := HoX.out tb e; omega); have K9 := Lib.hid n9; obtain ⟨⟨q0, q1, q2, q3, q4⟩, qf0, qf1, qf2, qf3, qf4⟩ := five_cells n9; have htl9 : tb < w9.heap.size := (Array.getElem?_eq_some_iff.1 n9).1; clear n9)
          | fail)
        have L9 : LrE (tb + 1) (fun z => tb + 1 ≤ z) w9 (l' ++ [U]) (.slice a9 (ul + 1) cap9) sc3 := LrE.grown (q := sb2) hLb hrow ⟨hmq.out, hm.2⟩ Hi8.out.2.1 HoX.out (fun z hz => by have h8 := hLb; show tb + 1 ≤ z; omega) (fun e => HrX.out e) (fun e => hse3.out e) (fun e => HXU.out e) hgr9 hloc9 hrow9 ⟨rfl, rfl⟩
        have gs4 : Gr (fun k => k = tb) w9 (w9.setCell ⟨tb, 4, none⟩ (.slice a9 (ul + 1) cap9)) := Gr.set _ _ _ rfl
        have ZT : (w9.setCell ⟨tb, 4, none⟩ (.slice a9 (ul + 1) cap9)).heap[tb]? = some (.cells #[.int .i64 17, .string T.s, .int .i64 0, nl, .slice a9 (ul + 1) cap9] 30 (0, 0)) := heap_setCell_same w9 tb 4 _ 30 _ K9.out
        have ZB := gs4.keep (Gg.keep X0 (fun e => by have h8 : tb + 1 ≤ b := HoX.out b e; omega)) hn2
        have Z1 := gs4.keep (Gg.keep (gX.keep K1.out (by omega)) (fun e => by have h8 : tb + 1 ≤ b + 1 := HoX.out _ e; omega)) (by omega)
        have Z2 := gs4.keep (Gg.keep (gX.keep K2.out (by omega)) (fun e => by have h8 : tb + 1 ≤ b + 2 := HoX.out _ e; omega)) (by omega)
        have ZG := ((KG.out.trans' gX (fun k hk e => by have := hbW.out; omega)).trans' Gg (fun k hk e => by have h8 : tb + 1 ≤ k := HoX.out k e; have := hbW.out; omega)).trans' gs4 (fun k hk e => by have := hbW.out; omega)
        have ZR : Rz x (w9.setCell ⟨tb, 4, none⟩ (.slice a9 (ul + 1) cap9)) sc3 := (((KR.out.gr gX (fun k hk e => by have := hNb.out; omega)).gr Gg (fun k hk e => by have h8 : tb + 1 ≤ k := HoX.out k e; have := hNb.out; omega)).gr gs4 (fun k hk e => by have := hNb.out; omega)).to Hi8.out.2.2 (by have := Hi8.out.1; have := KR.out.hd; omega)
        have ZL := L9.gr gs4 (fun k hk e => by have h8 : tb + 1 ≤ k := hk; omega)
        clear q0 q1 q2 q3 q4 qf0 qf1 qf2 qf3 qf4 htl9 c0 c1 c2 c3 f0 f1 f2 f3 n0 n1 n2 n3 n4 l0 l1 l2 l3 l4 hbl htl
        generalize w9.setCell ⟨tb, 4, none⟩ _ = Z at gs4 ZT ZB Z1 Z2 ZG ZR ZL ⊢
        clear gs4 L9 Gg gX X0 K0 K1 K2 KT KL KR KG K9
        have D0 : Z.drew.heap[b]? = some (stb x sc3) := ZB
        have D1 : Z.drew.heap[b + 1]? = some zs := Z1
        have D2 : Z.drew.heap[b + 2]? = some zt := Z2
        have DT : Z.drew.heap[tb]? = some (.cells #[.int .i64 17, .string T.s, .int .i64 0, nl, .slice a9 (ul + 1) cap9] 30 (0, 0)) := ZT
        have Gd : Hid (Gr (fun _ => False) W Z.drew) := ZG.trans (Gr.drew Z _)
        have Rd : Rz x Z.drew sc3 := ZR.g0 (Gr.drew Z _)
        have Ld := Lib.hid (ZL.gr (Gr.drew Z (fun _ => False)) (fun _ _ e => e))
        have hw4 := rwant_c Rd dot
        have hi4 := Lib.hid (wantV_i x.ts dot sc3 Rd.hi)
        have hgo0 := Lib.hid (want_adv x.ts dot sc3)
        generalize wantV x.ts dot sc3 = sd4 at hw4 hi4 HrR hgo0 ⊢
        have hgo : Hid (sd4.e = 0 → p.i < sd4.i) := fun e => by
          have h0 := hgo0.out e
          have h1 := hi1.out
          have h2 := hi2.out
          have h3 := Hi8.out
          have h5 := hq.out
          omega
        have hF : Hid (sd4.d = p.d ∧ p.i ≤ sd4.i ∧ sd4.i ≤ x.ts.length) := by
          have h1 := hi1.out
          have h2 := hi2.out
          have h3 := Hi8.out
          have h4 := hi4.out
          have h5 := hq.out
          exact ⟨by omega, by omega, h4.2.2.1⟩
        have hlx : Hid (sd4.e = 0 → l' = PL.1) := fun e => Hx2.out (hi1.out.2.2.2 (hi2.out.2.2.2 (hse3.out (hi4.out.2.2.2 e))))
        have TS : Gr (fun k => k = b + 1 ∨ k = b + 2) Z.drew Z.drew := Gr.refl _ _
        refine wp_region_L (L := 100) (T := fun w => Gr (fun k => k = b + 1 ∨ k = b + 2) Z.drew w) (by kernel_rfl) ?_
        generalize Z.drew = wx at TS D0 D1 D2 DT Gd Rd Ld hw4 ⊢
        obtain ⟨⟨d0, d1, d2, d3⟩, _⟩ := four_cells D0
        obtain ⟨⟨k0, k1, k2, k3, k4⟩, _⟩ := five_cells DT
        refine wpAnyN_at (i := 0) (v := (.agg #[.slice x.a x.ts.length x.c, .int .i64 (sc3.i : Int), .int .i64 (sc3.d : Int), .int .i64 sc3.e])) (some 76) rfl rfl (by kernel_rfl) (by kernel_rfl) (by kernel_rfl) (by kernel_rfl) (fun _ _ _ h => h) (Or.inl ⟨by rfl, ?_⟩) TS ?_
        · intro w hSw
          have qq0 := cell_gr d0 hSw (by show ¬ (_ ∨ _); omega)
          have qq1 := cell_gr d1 hSw (by show ¬ (_ ∨ _); omega)
          have qq2 := cell_gr d2 hSw (by show ¬ (_ ∨ _); omega)
          have qq3 := cell_gr d3 hSw (by show ¬ (_ ∨ _); omega)
          have qz := World.block_lt_of_cell? _ _ qq0
          go_simp
          try (intro h; exfalso; omega)
        try simp only [Act.put, List.setIfInBounds_toArray, List.set_cons_zero, List.set_cons_succ]
        refine wpAnyN_at (i := 2) (v := (.agg #[.int .i64 17, .string T.s, .int .i64 0, nl, .slice a9 (ul + 1) cap9])) (some 78) rfl rfl (by kernel_rfl) (by kernel_rfl) (by kernel_rfl) (by kernel_rfl) (fun _ _ _ h => h) (Or.inl ⟨by rfl, ?_⟩) TS ?_
        · intro w hSw
          have qq0 := cell_gr k0 hSw (by show ¬ (_ ∨ _); omega)
          have qq1 := cell_gr k1 hSw (by show ¬ (_ ∨ _); omega)
          have qq2 := cell_gr k2 hSw (by show ¬ (_ ∨ _); omega)
          have qq3 := cell_gr k3 hSw (by show ¬ (_ ∨ _); omega)
          have qq4 := cell_gr k4 hSw (by show ¬ (_ ∨ _); omega)
          have qz := World.block_lt_of_cell? _ _ qq0
          go_simp
          try (intro h; exfalso; omega)
        try simp only [Act.put, List.setIfInBounds_toArray, List.set_cons_zero, List.set_cons_succ]
        refine wpAnyL_one (i := 1) (by kernel_rfl) rfl (fun K hK => ?_)
        go_simp
        refine (hw4).mono ?_
        rintro e wy ⟨rfl, gy⟩
        refine hK.out _ _ (fun _ => gy.any _) ?_
        clear hK K
        try simp only [Act.put, List.setIfInBounds_toArray, List.set_cons_zero, List.set_cons_succ]
        have F1 := gy.keep D1 (fun e => e)
        have F2 := gy.keep D2 (fun e => e)
        have Ly := Ld.out.gr gy (fun _ _ e => e)
        have hRy : sd4.e = 0 → Rep (fun z => b + 3 ≤ z) wy (.mk 17 T.s 0 [] (PL.1 ++ [U])) (trv 17 T.s 0 nl (.slice a9 (ul + 1) cap9)) := fun he => by
          rw [← hlx.out he]
          exact (Ly.tree (hi4.out.2.2.2 he) 17 T.s).turn (fun z hz hl => ⟨by have h8 : tb + 1 ≤ z := hz; omega, rfl⟩)
        obtain ⟨E1, E2, E3, E4⟩ := end3 (x := x) (q := sd4) (T := (.mk 17 T.s 0 [] (PL.1 ++ [U]))) (k := 17) (s := T.s) (n := 0) (bv := nl) (lv := .slice a9 (ul + 1) cap9) (Gd.out.trans gy) hbW.out F1 F2 (hRy)
        obtain ⟨wF, hwF⟩ : ∃ wF, set5 (set4 wy (b + 1) (.slice x.a x.ts.length x.c) (.int .i64 (sd4.i : Int)) (.int .i64 (sd4.d : Int)) (.int .i64 sd4.e)) (b + 2) (.int .i64 17) (.string T.s) (.int .i64 0) (nl) (.slice a9 (ul + 1) cap9) = wF := ⟨_, rfl⟩
        rw [hwF] at E1 E2 E3 E4
        replace E1 := Lib.hid E1
        replace E2 := Lib.hid E2
        replace E3 := Lib.hid E3
        replace E4 := Lib.hid E4
        replace hwF := Lib.hid hwF
        obtain ⟨⟨y0, y1, y2, y3⟩, v0, v1, v2, v3⟩ := four_cells F1
        obtain ⟨⟨m0, m1, m2, m3, m4⟩, o0, o1, o2, o3, o4⟩ := five_cells F2
        have hlz : b + 2 < wy.heap.size := (Array.getElem?_eq_some_iff.1 F2).1
        have hlz' : b + 1 < wy.heap.size := by omega
        have TA : Gr (fun k => k = b + 1 ∨ k = b + 2) wx (set4 wy (b + 1) (.slice x.a x.ts.length x.c) (.int .i64 (sd4.i : Int)) (.int .i64 (sd4.d : Int)) (.int .i64 sd4.e)) := (gy.any _).trans' (set4_gr wy (b + 1) _ _ _ _) (fun _ _ e => .inl e)
        have TB : Gr (fun k => k = b + 1 ∨ k = b + 2) wx (set5 (set4 wy (b + 1) (.slice x.a x.ts.length x.c) (.int .i64 (sd4.i : Int)) (.int .i64 (sd4.d : Int)) (.int .i64 sd4.e)) (b + 2) (.int .i64 17) (.string T.s) (.int .i64 0) (nl) (.slice a9 (ul + 1) cap9)) := TA.trans' (set5_gr _ (b + 2) _ _ _ _ _) (fun _ _ e => .inr e)
        refine wpAnyL_one (i := 3) (by kernel_rfl) rfl (fun K hK => ?_)
        go_simp
        refine hK.out _ _ (fun _ => TA) ?_
        clear hK K
        try simp only [Act.put, List.setIfInBounds_toArray, List.set_cons_zero, List.set_cons_succ]
        refine wpAnyL_one (i := 4) (by kernel_rfl) rfl (fun K hK => ?_)
        go_simp
        refine hK.out _ _ (fun _ => TB) ?_
        clear hK K
        try simp only [Act.put, List.setIfInBounds_toArray, List.set_cons_zero, List.set_cons_succ]
        refine wpAnyL_done (by kernel_rfl) ?_ _
        refine NoPanic.normal ?_
        clear TS TA TB
        go_wp2_with fail
        rw [HrR.out]
        rw [show ((((((((wy.setCell ⟨b + 1, 0, none⟩ (.slice x.a x.ts.length x.c)).setCell ⟨b + 1, 1, none⟩ (.int .i64 (sd4.i : Int))).setCell ⟨b + 1, 2, none⟩ (.int .i64 (sd4.d : Int))).setCell ⟨b + 1, 3, none⟩ (.int .i64 sd4.e)).setCell ⟨b + 1 + 1, 0, none⟩ (.int .i64 17)).setCell ⟨b + 1 + 1, 1, none⟩ (.string T.s)).setCell ⟨b + 1 + 1, 2, none⟩ (.int .i64 0)).setCell ⟨b + 1 + 1, 3, none⟩ (nl)).setCell ⟨b + 1 + 1, 4, none⟩ (.slice a9 (ul + 1) cap9) = wF from hwF.out]
        clear y0 y1 y2 y3 v0 v1 v2 v3 m0 m1 m2 m3 m4 o0 o1 o2 o3 o4
        have E1' := E1.out
        have E2' : wF.heap[b + 1 + 1]? = some (.cells #[.int .i64 17, .string T.s, .int .i64 0, nl, .slice a9 (ul + 1) cap9] 30 (0, 0)) := E2.out
        obtain ⟨⟨t0, t1, t2, t3⟩, _⟩ := four_cells E1'
        obtain ⟨⟨s0, s1, s2, s3, s4⟩, _⟩ := five_cells E2'
        refine bodyPost_ret (v := .tuple #[stv x sd4, trv (17) (T.s) (0) (nl) (.slice a9 (ul + 1) cap9)]) (by simp [results, Tryz.results13, go_sem, t0, t1, t2, t3, s0, s1, s2, s3, s4]) rfl ⟨⟨17, T.s, 0, none, 0, 0, a9, ul + 1, cap9, rfl, E3.out, hF.out, E4.out⟩, hgo.out⟩
      | false =>
        rw [hs] at his
        cases fs with
        | true =>
          have hk3 : Hid ((pkT x.ts q).k = 3 → ∃ fu, x.ts.length ≤ fu + (q.i + 1) ∧ PL = HV x.ts false fu (l' ++ [.mk 3 (pkT x.ts q).s 0 [] []]) q.next) := fun h => ⟨x.ts.length, by omega, by rw [Hq.out]; exact (HV_first f l' q hs).1 h⟩
          have hkN : Hid ((pkT x.ts q).k ≠ 3 → wantV x.ts shutR (failV 160 q) = wantV x.ts shutR PL.2) := fun h => by rw [Hq.out]; exact (HV_first f l' q hs).2 h
          have hqq : Hid (q.d = p.d ∧ p.i ≤ q.i ∧ q.i ≤ x.ts.length ∧ q.i ≤ q.i) := ⟨hq.out.1, hq.out.2.1, hq.out.2.2, Nat.le_refl _⟩
          clear hs Hq hf
          go_wp2_with fail
          refine his.mono ?_
          rintro e w2z ⟨rfl, g2z⟩
          clear c0 c1 c2 c3 f0 f1 f2 f3 his hbl
          replace K0 := Lib.hid (g2z.keep K0.out (fun e => e))
          replace K1 := Lib.hid (g2z.keep K1.out (fun e => e))
          replace K2 := Lib.hid (g2z.keep K2.out (fun e => e))
          replace KT := Lib.hid (g2z.keep KT.out (fun e => e))
          replace KL := Lib.hid (KL.out.gr g2z (fun _ _ e => e))
          replace KR := Lib.hid (KR.out.g0 g2z)
          replace KG := Lib.hid (KG.out.trans g2z)
          have hkd := Lib.hid (rkind_c KR.out)
          obtain ⟨⟨c0, c1, c2, c3⟩, f0, f1, f2, f3⟩ := four_cells K0.out
          have hbl : b < w2z.heap.size := (Array.getElem?_eq_some_iff.1 K0.out).1
          go_wp2_with fail
          clear c0 c1 c2 c3 f0 f1 f2 f3 hbl
          replace hkd := hkd.out
          by_cases hk : (pkT x.ts q).k = 3
          case neg =>
            have qk : ((pkT x.ts q).k != 3) = true := by rw [bne_iff_ne]; exact hk
            have qk' : ((pkT x.ts q).k == 3) = false := by simpa using hk
            have hkx := Lib.hid (hkN.out hk)
            obtain ⟨q2, hq2⟩ : ∃ q2, q2 = failV 160 q := ⟨_, rfl⟩
            have hbd := Lib.hid (fun w => rbad_c (x := x) w q 160)
            have hfe := Lib.hid (failV_e 160 (by decide) q)
            have hfs := Lib.hid (failV_same 160 q)
            rw [← hq2] at hbd hkx hfe hfs
            have hwi : Hid (q2.d = q.d ∧ q.i ≤ q2.i ∧ q2.i ≤ x.ts.length ∧ (q2.e = 0 → q.e = 0)) := by
              have h1 := hfs.out
              have h2 := hqq.out
              exact ⟨h1.2, by omega, by omega, fun e => absurd e hfe.out⟩
            replace hk := Lib.hid hk
            clear hq2 hk3 hkN
            generalize (pkT x.ts q).k = kk at hkd qk qk' hk
            refine hkd.mono ?_
            rintro e wk ⟨rfl, gk⟩
            replace K0 := Lib.hid (gk.keep K0.out (fun e => e))
            replace K1 := Lib.hid (gk.keep K1.out (fun e => e))
            replace K2 := Lib.hid (gk.keep K2.out (fun e => e))
            replace KT := Lib.hid (gk.keep KT.out (fun e => e))
            replace KL := Lib.hid (KL.out.gr gk (fun _ _ e => e))
            replace KR := Lib.hid (KR.out.g0 gk)
            replace KG := Lib.hid (KG.out.trans gk)
            obtain ⟨⟨c0, c1, c2, c3⟩, f0, f1, f2, f3⟩ := four_cells K0.out
            have hbl : b < wk.heap.size := (Array.getElem?_eq_some_iff.1 K0.out).1
            go_wp2_with fail
            refine (hbd.out wk).mono ?_
            rintro e wl ⟨rfl, gl⟩
            clear c0 c1 c2 c3 f0 f1 f2 f3 hbl hkd
            replace K0 := Lib.hid (gl.keep K0.out (fun e => e))
            replace K1 := Lib.hid (gl.keep K1.out (fun e => e))
            replace K2 := Lib.hid (gl.keep K2.out (fun e => e))
            replace KT := Lib.hid (gl.keep KT.out (fun e => e))
            replace KL := Lib.hid (KL.out.gr gl (fun _ _ e => e))
            replace KR := Lib.hid (KR.out.g0 gl)
            replace KG := Lib.hid (KG.out.trans gl)
            have gs : Gr (fun k => k = b) wl ((((wl.setCell ⟨b, 0, none⟩ (.slice x.a x.ts.length x.c)).setCell ⟨b, 1, none⟩ (.int .i64 (q2.i : Int))).setCell ⟨b, 2, none⟩ (.int .i64 (q2.d : Int))).setCell ⟨b, 3, none⟩ (.int .i64 q2.e)) := set4_gr wl b (.slice x.a x.ts.length x.c) (.int .i64 (q2.i : Int)) (.int .i64 (q2.d : Int)) (.int .i64 q2.e)
            have N0 : Hid (((((wl.setCell ⟨b, 0, none⟩ (.slice x.a x.ts.length x.c)).setCell ⟨b, 1, none⟩ (.int .i64 (q2.i : Int))).setCell ⟨b, 2, none⟩ (.int .i64 (q2.d : Int))).setCell ⟨b, 3, none⟩ (.int .i64 q2.e)).heap[b]? = some (stb x q2)) := set4_heap K0.out (.slice x.a x.ts.length x.c) (.int .i64 (q2.i : Int)) (.int .i64 (q2.d : Int)) (.int .i64 q2.e)
            have hbt9 := hbt.out
            have N1 := Lib.hid (gs.keep K1.out (by omega))
            have N2 := Lib.hid (gs.keep K2.out (by omega))
            have NT := Lib.hid (gs.keep KT.out (by omega))
            have NR := Lib.hid ((KR.out.to (p' := q2) hwi.out.2.2.1 (by have := hwi.out.1; have := KR.out.hd; omega)).gr gs (fun k hk e => by have := hNb.out; omega))
            have NL := Lib.hid ((KL.out.st hwi.out.2.1 hwi.out.2.2.2).gr gs (fun k hk e => by have h8 : tb + 1 ≤ k := hk; omega))
            have NG := Lib.hid (KG.out.trans' gs (fun k hk e => by have := hbW.out; omega))
            obtain ⟨⟨c0, c1, c2, c3⟩, f0, f1, f2, f3⟩ := four_cells K0.out
            have hbl : b < wl.heap.size := (Array.getElem?_eq_some_iff.1 K0.out).1
            clear gs K0 K1 K2 KT KR KL KG
            have hmx2 : Hid (ul ≤ q2.i) := by have := hmx.out; have := hwi.out; show _ ≤ _; omega
            have hmx := hmx2
            have hq : Hid (q2.d = p.d ∧ p.i ≤ q2.i ∧ q2.i ≤ x.ts.length) := by
              have h1 := hwi.out
              have h2 := hqq.out
              exact ⟨by omega, by omega, h1.2.2.1⟩
            have Hx : Hid (wantV x.ts shutR q2 = wantV x.ts shutR PL.2 ∧ (q2.e = 0 → l' = PL.1)) := ⟨hkx.out, fun e => absurd e hfe.out⟩
            have hw1 := Lib.hid (rwant_c NR.out shutR)
            have hi1 := Lib.hid (wantV_i x.ts shutR q2 NR.out.hi)
            have Hx1 : Hid (wantV x.ts shutR PL.2 = wantV x.ts shutR q2) := Hx.out.1.symm
            have Hx2 : Hid (q2.e = 0 → l' = PL.1) := Hx.out.2
            have HrR : Hid (r = (.mk 17 T.s 0 [] (PL.1 ++ [(bodyV x.ts ex (wantV x.ts arw (wantV x.ts shutR q2))).1]), wantV x.ts dot (bodyV x.ts ex (wantV x.ts arw (wantV x.ts shutR q2))).2)) := by
              show r = _
              rw [Hr.out, Hx1.out]
            generalize wantV x.ts shutR q2 = sa1 at hw1 hi1 HrR ⊢
            clear Hx Hx1
            go_wp2_with fail
            generalize (((wl.setCell ⟨b, 0, none⟩ (.slice x.a x.ts.length x.c)).setCell ⟨b, 1, none⟩ (.int .i64 (q2.i : Int))).setCell ⟨b, 2, none⟩ (.int .i64 (q2.d : Int))).setCell ⟨b, 3, none⟩ (.int .i64 q2.e) = wm at N0 N1 N2 NT NR NL NG hw1 ⊢
            have K0 := N0
            have K1 := N1
            have K2 := N2
            have KT := NT
            have KR := NR
            have KL := NL
            have KG := NG
            clear N0 N1 N2 NT NR NL NG c0 c1 c2 c3 f0 f1 f2 f3 hbl hbt9
            refine hw1.out.mono ?_
            rintro e wa ⟨rfl, ga⟩
            clear hw1
            replace K0 := Lib.hid (ga.keep K0.out (fun e => e))
            replace K1 := Lib.hid (ga.keep K1.out (fun e => e))
            replace K2 := Lib.hid (ga.keep K2.out (fun e => e))
            replace KT := Lib.hid (ga.keep KT.out (fun e => e))
            replace KL := Lib.hid (KL.out.gr ga (fun _ _ e => e))
            replace KR := Lib.hid (KR.out.g0 ga)
            replace KG := Lib.hid (KG.out.trans ga)
            have gs : Gr (fun k => k = b) wa ((((wa.setCell ⟨b, 0, none⟩ (.slice x.a x.ts.length x.c)).setCell ⟨b, 1, none⟩ (.int .i64 (sa1.i : Int))).setCell ⟨b, 2, none⟩ (.int .i64 (sa1.d : Int))).setCell ⟨b, 3, none⟩ (.int .i64 sa1.e)) := set4_gr wa b (.slice x.a x.ts.length x.c) (.int .i64 (sa1.i : Int)) (.int .i64 (sa1.d : Int)) (.int .i64 sa1.e)
            have N0 : Hid (((((wa.setCell ⟨b, 0, none⟩ (.slice x.a x.ts.length x.c)).setCell ⟨b, 1, none⟩ (.int .i64 (sa1.i : Int))).setCell ⟨b, 2, none⟩ (.int .i64 (sa1.d : Int))).setCell ⟨b, 3, none⟩ (.int .i64 sa1.e)).heap[b]? = some (stb x sa1)) := set4_heap K0.out (.slice x.a x.ts.length x.c) (.int .i64 (sa1.i : Int)) (.int .i64 (sa1.d : Int)) (.int .i64 sa1.e)
            have hbt9 := hbt.out
            have N1 := Lib.hid (gs.keep K1.out (by omega))
            have N2 := Lib.hid (gs.keep K2.out (by omega))
            have NT := Lib.hid (gs.keep KT.out (by omega))
            have NR := Lib.hid ((KR.out.to (p' := sa1) hi1.out.2.2.1 (by have := hi1.out.1; have := KR.out.hd; omega)).gr gs (fun k hk e => by have := hNb.out; omega))
            have NL := Lib.hid ((KL.out.st hi1.out.2.1 hi1.out.2.2.2).gr gs (fun k hk e => by have h8 : tb + 1 ≤ k := hk; omega))
            have NG := Lib.hid (KG.out.trans' gs (fun k hk e => by have := hbW.out; omega))
            obtain ⟨⟨c0, c1, c2, c3⟩, f0, f1, f2, f3⟩ := four_cells K0.out
            have hbl : b < wa.heap.size := (Array.getElem?_eq_some_iff.1 K0.out).1
            clear gs K0 K1 K2 KT KR KL KG
            have hw2 := Lib.hid (rwant_c NR.out arw)
            have hi2 := Lib.hid (wantV_i x.ts arw sa1 NR.out.hi)
            generalize wantV x.ts arw sa1 = sb2 at hw2 hi2 HrR ⊢
            go_wp2_with fail
            generalize (((wa.setCell ⟨b, 0, none⟩ (.slice x.a x.ts.length x.c)).setCell ⟨b, 1, none⟩ (.int .i64 (sa1.i : Int))).setCell ⟨b, 2, none⟩ (.int .i64 (sa1.d : Int))).setCell ⟨b, 3, none⟩ (.int .i64 sa1.e) = wb at N0 N1 N2 NT NR NL NG hw2 ⊢
            have K0 := N0
            have K1 := N1
            have K2 := N2
            have KT := NT
            have KR := NR
            have KL := NL
            have KG := NG
            clear N0 N1 N2 NT NR NL NG c0 c1 c2 c3 f0 f1 f2 f3 hbl hbt9
            refine hw2.out.mono ?_
            rintro e wc ⟨rfl, gc⟩
            clear hw2
            replace K0 := Lib.hid (gc.keep K0.out (fun e => e))
            replace K1 := Lib.hid (gc.keep K1.out (fun e => e))
            replace K2 := Lib.hid (gc.keep K2.out (fun e => e))
            replace KT := Lib.hid (gc.keep KT.out (fun e => e))
            replace KL := Lib.hid (KL.out.gr gc (fun _ _ e => e))
            replace KR := Lib.hid (KR.out.g0 gc)
            replace KG := Lib.hid (KG.out.trans gc)
            have gs : Gr (fun k => k = b) wc ((((wc.setCell ⟨b, 0, none⟩ (.slice x.a x.ts.length x.c)).setCell ⟨b, 1, none⟩ (.int .i64 (sb2.i : Int))).setCell ⟨b, 2, none⟩ (.int .i64 (sb2.d : Int))).setCell ⟨b, 3, none⟩ (.int .i64 sb2.e)) := set4_gr wc b (.slice x.a x.ts.length x.c) (.int .i64 (sb2.i : Int)) (.int .i64 (sb2.d : Int)) (.int .i64 sb2.e)
            have N0 : Hid (((((wc.setCell ⟨b, 0, none⟩ (.slice x.a x.ts.length x.c)).setCell ⟨b, 1, none⟩ (.int .i64 (sb2.i : Int))).setCell ⟨b, 2, none⟩ (.int .i64 (sb2.d : Int))).setCell ⟨b, 3, none⟩ (.int .i64 sb2.e)).heap[b]? = some (stb x sb2)) := set4_heap K0.out (.slice x.a x.ts.length x.c) (.int .i64 (sb2.i : Int)) (.int .i64 (sb2.d : Int)) (.int .i64 sb2.e)
            have hbt9 := hbt.out
            have N1 := Lib.hid (gs.keep K1.out (by omega))
            have N2 := Lib.hid (gs.keep K2.out (by omega))
            have NT := Lib.hid (gs.keep KT.out (by omega))
            have NR := Lib.hid ((KR.out.to (p' := sb2) hi2.out.2.2.1 (by have := hi2.out.1; have := KR.out.hd; omega)).gr gs (fun k hk e => by have := hNb.out; omega))
            have NL := Lib.hid ((KL.out.st hi2.out.2.1 hi2.out.2.2.2).gr gs (fun k hk e => by have h8 : tb + 1 ≤ k := hk; omega))
            have NG := Lib.hid (KG.out.trans' gs (fun k hk e => by have := hbW.out; omega))
            obtain ⟨⟨c0, c1, c2, c3⟩, f0, f1, f2, f3⟩ := four_cells K0.out
            have hbl : b < wc.heap.size := (Array.getElem?_eq_some_iff.1 K0.out).1
            clear gs K0 K1 K2 KT KR KL KG
            have hw3 := Lib.hid (rbody_c d ex hex _ sb2 NR.out (by have := hi2.out; have := hi1.out; have := hq.out; have := Hd.out; omega))
            have hse3 : Hid ((bodyV x.ts ex sb2).2.e = 0 → sb2.e = 0) := fun e => by
              by_cases h0 : sb2.e = 0
              · exact h0
              · have e1 : (bodyV x.ts ex sb2).2 = sb2 := sevV_err hse h0 cma
                rw [e1] at e
                exact e
            go_wp2_with fail
            generalize (((wc.setCell ⟨b, 0, none⟩ (.slice x.a x.ts.length x.c)).setCell ⟨b, 1, none⟩ (.int .i64 (sb2.i : Int))).setCell ⟨b, 2, none⟩ (.int .i64 (sb2.d : Int))).setCell ⟨b, 3, none⟩ (.int .i64 sb2.e) = wd at N0 N1 N2 NT NR NL NG hw3 ⊢
            have K0 := N0
            have K1 := N1
            have K2 := N2
            have KT := NT
            have KR := NR
            have KL := NL
            have KG := NG
            clear N0 N1 N2 NT NR NL NG c0 c1 c2 c3 f0 f1 f2 f3 hbl hbt9
            refine hw3.out.mono ?_
            rintro e we ⟨bk, bs, bn, b1', m1, d1, b2', m2, d2, rfl, rep8, hi8, g8⟩
            generalize (bodyV x.ts ex sb2).2 = sc3 at HrR rep8 hi8 hse3 ⊢
            generalize (bodyV x.ts ex sb2).1 = U at HrR rep8 ⊢
            have Hi8 := Lib.hid hi8
            have hown : Hid (∀ k, (Value.slice ua ul uc).ownBlock = some k → k < wd.heap.size) := by
              obtain ⟨_, _, _, hr3, _⟩ := KL.out
              exact fun k hk => (ownsRow_lt hr3 k hk).2
            have htbd : Hid (tb + 1 ≤ wd.heap.size) := (Array.getElem?_eq_some_iff.1 KT.out).1
            have rU : Hid (sc3.e = 0 → Rep (fun z => tb + 1 ≤ z ∧ (Value.slice ua ul uc).ownBlock ≠ some z) we U (trv bk bs bn (.slice b1' m1 d1) (.slice b2' m2 d2))) := fun e => (rep8 e).turn (fun z hz hl => by
              have h7 : wd.heap.size ≤ z := hz
              refine ⟨⟨by have := htbd.out; omega, fun e => ?_⟩, rfl⟩
              have := hown.out z e
              omega)
            replace K0 := Lib.hid (g8.keep K0.out (fun e => e))
            replace K1 := Lib.hid (g8.keep K1.out (fun e => e))
            replace K2 := Lib.hid (g8.keep K2.out (fun e => e))
            replace KT := Lib.hid (g8.keep KT.out (fun e => e))
            replace KL := Lib.hid (KL.out.gr g8 (fun _ _ e => e))
            replace KR := Lib.hid (KR.out.g0 g8)
            replace KG := Lib.hid (KG.out.trans g8)
            obtain ⟨⟨c0, c1, c2, c3⟩, f0, f1, f2, f3⟩ := four_cells K0.out
            obtain ⟨⟨n0, n1, n2, n3, n4⟩, l0, l1, l2, l3, l4⟩ := five_cells KT.out
            have hbl : b < we.heap.size := (Array.getElem?_eq_some_iff.1 K0.out).1
            have htl : tb < we.heap.size := (Array.getElem?_eq_some_iff.1 KT.out).1
            have hbt9 := hbt.out
            have hn1 : tb ≠ b := by omega
            have hn2 : b ≠ tb := by omega
            have hmq : Hid (ul ≤ sb2.i) := by have := hmx.out; have := hi1.out; have := hi2.out; show _ ≤ _; omega
            have hs2l : Hid (sb2.i ≤ x.ts.length) := hi2.out.2.2.1
            clear hw3 rep8 hi8 g8
            go_wp2_with (first
              | (at_builtin; generalize hX : World.alloc (World.alloc (World.setCell _ _ _) _) _ = X; obtain ⟨gX, X0, Xs, Xc, XU⟩ := app1_x (A := fun z => tb + 1 ≤ z ∧ (Value.slice ua ul uc).ownBlock ≠ some z) (U := U) K0.out hX (fun z hz => by omega) rU.out; obtain ⟨hLb, m, xs, hrow, hm, hownX, hreps⟩ := (KL.out.gr gX (fun k hk e => by have h8 : tb + 1 ≤ k := hk; omega)); obtain ⟨_, _, hsv⟩ := ownsRow_sv hrow; have hul : ul = m := (by cases hsv; rfl); subst hul; clear hsv; have HXU := Lib.hid XU; have HrX := Lib.hid hreps; have HoX := Lib.hid hownX; clear XU hreps hownX; refine wpList_own2 _ rfl 28 _ _ rfl (tb + 1) 30 i0 (trv 0 e0 0 nl nl) 5 80 Tryz.underlying28 hi0 hz0' hz1 hz2 rfl (by decide) (.slice ua ul uc) ul xs ⟨we.heap.size + 1, 0, none⟩ 1 1 [.int .i64 bk, .string bs, .int .i64 bn, .slice b1' m1 d1, .slice b2' m2 d2] rfl rfl hrow rfl Xc (by simp [Value.oneCell']) (by unfold maxLen; have := hmq.out; have := hRm.out; have := hs2l.out; omega) (by have := hmq.out; have := hRm.out; have := hs2l.out; omega) (by omega) ?_; intro v' w9 hrow9 hgr9 hloc9; obtain ⟨a9, cap9, rfl⟩ := ownsRow_sv hrow9; clear hX; have Gg : Gr (fun k => (Value.slice ua ul uc).ownBlock = some k) X w9 := Gr.of_grown hgr9 (fun z e => e); have n9 : w9.heap[tb]? = some (.cells #[.int .i64 17, .string T.s, .int .i64 0, nl, .slice ua ul uc] 30 (0, 0)) := Gg.keep (gX.keep KT.out (by omega)) (fun e => by have h8 : tb + 1 ≤ tb := HoX.out tb e; omega); have K9 := Lib.hid n9; obtain ⟨⟨q0, q1, q2, q3, q4⟩, qf0, qf1, qf2, qf3, qf4⟩ := five_cells n9; have htl9 : tb < w9.heap.size := (Array.getElem?_eq_some_iff.1 n9).1; clear n9)
              | fail)
            have L9 : LrE (tb + 1) (fun z => tb + 1 ≤ z) w9 (l' ++ [U]) (.slice a9 (ul + 1) cap9) sc3 := LrE.grown (q := sb2) hLb hrow ⟨hmq.out, hm.2⟩ Hi8.out.2.1 HoX.out (fun z hz => by have h8 := hLb; show tb + 1 ≤ z; omega) (fun e => HrX.out e) (fun e => hse3.out e) (fun e => HXU.out e) hgr9 hloc9 hrow9 ⟨rfl, rfl⟩
            have gs4 : Gr (fun k => k = tb) w9 (w9.setCell ⟨tb, 4, none⟩ (.slice a9 (ul + 1) cap9)) := Gr.set _ _ _ rfl
            have ZT : (w9.setCell ⟨tb, 4, none⟩ (.slice a9 (ul + 1) cap9)).heap[tb]? = some (.cells #[.int .i64 17, .string T.s, .int .i64 0, nl, .slice a9 (ul + 1) cap9] 30 (0, 0)) := heap_setCell_same w9 tb 4 _ 30 _ K9.out
            have ZB := gs4.keep (Gg.keep X0 (fun e => by have h8 : tb + 1 ≤ b := HoX.out b e; omega)) hn2
            have Z1 := gs4.keep (Gg.keep (gX.keep K1.out (by omega)) (fun e => by have h8 : tb + 1 ≤ b + 1 := HoX.out _ e; omega)) (by omega)
            have Z2 := gs4.keep (Gg.keep (gX.keep K2.out (by omega)) (fun e => by have h8 : tb + 1 ≤ b + 2 := HoX.out _ e; omega)) (by omega)
            have ZG := ((KG.out.trans' gX (fun k hk e => by have := hbW.out; omega)).trans' Gg (fun k hk e => by have h8 : tb + 1 ≤ k := HoX.out k e; have := hbW.out; omega)).trans' gs4 (fun k hk e => by have := hbW.out; omega)
            have ZR : Rz x (w9.setCell ⟨tb, 4, none⟩ (.slice a9 (ul + 1) cap9)) sc3 := (((KR.out.gr gX (fun k hk e => by have := hNb.out; omega)).gr Gg (fun k hk e => by have h8 : tb + 1 ≤ k := HoX.out k e; have := hNb.out; omega)).gr gs4 (fun k hk e => by have := hNb.out; omega)).to Hi8.out.2.2 (by have := Hi8.out.1; have := KR.out.hd; omega)
            have ZL := L9.gr gs4 (fun k hk e => by have h8 : tb + 1 ≤ k := hk; omega)
            clear q0 q1 q2 q3 q4 qf0 qf1 qf2 qf3 qf4 htl9 c0 c1 c2 c3 f0 f1 f2 f3 n0 n1 n2 n3 n4 l0 l1 l2 l3 l4 hbl htl
            generalize w9.setCell ⟨tb, 4, none⟩ _ = Z at gs4 ZT ZB Z1 Z2 ZG ZR ZL ⊢
            clear gs4 L9 Gg gX X0 K0 K1 K2 KT KL KR KG K9
            have D0 : Z.drew.heap[b]? = some (stb x sc3) := ZB
            have D1 : Z.drew.heap[b + 1]? = some zs := Z1
            have D2 : Z.drew.heap[b + 2]? = some zt := Z2
            have DT : Z.drew.heap[tb]? = some (.cells #[.int .i64 17, .string T.s, .int .i64 0, nl, .slice a9 (ul + 1) cap9] 30 (0, 0)) := ZT
            have Gd : Hid (Gr (fun _ => False) W Z.drew) := ZG.trans (Gr.drew Z _)
            have Rd : Rz x Z.drew sc3 := ZR.g0 (Gr.drew Z _)
            have Ld := Lib.hid (ZL.gr (Gr.drew Z (fun _ => False)) (fun _ _ e => e))
            have hw4 := rwant_c Rd dot
            have hi4 := Lib.hid (wantV_i x.ts dot sc3 Rd.hi)
            have hgo0 := Lib.hid (want_adv x.ts dot sc3)
            generalize wantV x.ts dot sc3 = sd4 at hw4 hi4 HrR hgo0 ⊢
            have hgo : Hid (sd4.e = 0 → p.i < sd4.i) := fun e => by
              have h0 := hgo0.out e
              have h1 := hi1.out
              have h2 := hi2.out
              have h3 := Hi8.out
              have h5 := hq.out
              omega
            have hF : Hid (sd4.d = p.d ∧ p.i ≤ sd4.i ∧ sd4.i ≤ x.ts.length) := by
              have h1 := hi1.out
              have h2 := hi2.out
              have h3 := Hi8.out
              have h4 := hi4.out
              have h5 := hq.out
              exact ⟨by omega, by omega, h4.2.2.1⟩
            have hlx : Hid (sd4.e = 0 → l' = PL.1) := fun e => Hx2.out (hi1.out.2.2.2 (hi2.out.2.2.2 (hse3.out (hi4.out.2.2.2 e))))
            have TS : Gr (fun k => k = b + 1 ∨ k = b + 2) Z.drew Z.drew := Gr.refl _ _
            refine wp_region_L (L := 100) (T := fun w => Gr (fun k => k = b + 1 ∨ k = b + 2) Z.drew w) (by kernel_rfl) ?_
            generalize Z.drew = wx at TS D0 D1 D2 DT Gd Rd Ld hw4 ⊢
            obtain ⟨⟨d0, d1, d2, d3⟩, _⟩ := four_cells D0
            obtain ⟨⟨k0, k1, k2, k3, k4⟩, _⟩ := five_cells DT
            refine wpAnyN_at (i := 0) (v := (.agg #[.slice x.a x.ts.length x.c, .int .i64 (sc3.i : Int), .int .i64 (sc3.d : Int), .int .i64 sc3.e])) (some 76) rfl rfl (by kernel_rfl) (by kernel_rfl) (by kernel_rfl) (by kernel_rfl) (fun _ _ _ h => h) (Or.inl ⟨by rfl, ?_⟩) TS ?_
            · intro w hSw
              have qq0 := cell_gr d0 hSw (by show ¬ (_ ∨ _); omega)
              have qq1 := cell_gr d1 hSw (by show ¬ (_ ∨ _); omega)
              have qq2 := cell_gr d2 hSw (by show ¬ (_ ∨ _); omega)
              have qq3 := cell_gr d3 hSw (by show ¬ (_ ∨ _); omega)
              have qz := World.block_lt_of_cell? _ _ qq0
              go_simp
              try (intro h; exfalso; omega)
            try simp only [Act.put, List.setIfInBounds_toArray, List.set_cons_zero, List.set_cons_succ]
            refine wpAnyN_at (i := 2) (v := (.agg #[.int .i64 17, .string T.s, .int .i64 0, nl, .slice a9 (ul + 1) cap9])) (some 78) rfl rfl (by kernel_rfl) (by kernel_rfl) (by kernel_rfl) (by kernel_rfl) (fun _ _ _ h => h) (Or.inl ⟨by rfl, ?_⟩) TS ?_
            · intro w hSw
              have qq0 := cell_gr k0 hSw (by show ¬ (_ ∨ _); omega)
              have qq1 := cell_gr k1 hSw (by show ¬ (_ ∨ _); omega)
              have qq2 := cell_gr k2 hSw (by show ¬ (_ ∨ _); omega)
              have qq3 := cell_gr k3 hSw (by show ¬ (_ ∨ _); omega)
              have qq4 := cell_gr k4 hSw (by show ¬ (_ ∨ _); omega)
              have qz := World.block_lt_of_cell? _ _ qq0
              go_simp
              try (intro h; exfalso; omega)
            try simp only [Act.put, List.setIfInBounds_toArray, List.set_cons_zero, List.set_cons_succ]
            refine wpAnyL_one (i := 1) (by kernel_rfl) rfl (fun K hK => ?_)
            go_simp
            refine (hw4).mono ?_
            rintro e wy ⟨rfl, gy⟩
            refine hK.out _ _ (fun _ => gy.any _) ?_
            clear hK K
            try simp only [Act.put, List.setIfInBounds_toArray, List.set_cons_zero, List.set_cons_succ]
            have F1 := gy.keep D1 (fun e => e)
            have F2 := gy.keep D2 (fun e => e)
            have Ly := Ld.out.gr gy (fun _ _ e => e)
            have hRy : sd4.e = 0 → Rep (fun z => b + 3 ≤ z) wy (.mk 17 T.s 0 [] (PL.1 ++ [U])) (trv 17 T.s 0 nl (.slice a9 (ul + 1) cap9)) := fun he => by
              rw [← hlx.out he]
              exact (Ly.tree (hi4.out.2.2.2 he) 17 T.s).turn (fun z hz hl => ⟨by have h8 : tb + 1 ≤ z := hz; omega, rfl⟩)
            obtain ⟨E1, E2, E3, E4⟩ := end3 (x := x) (q := sd4) (T := (.mk 17 T.s 0 [] (PL.1 ++ [U]))) (k := 17) (s := T.s) (n := 0) (bv := nl) (lv := .slice a9 (ul + 1) cap9) (Gd.out.trans gy) hbW.out F1 F2 (hRy)
            obtain ⟨wF, hwF⟩ : ∃ wF, set5 (set4 wy (b + 1) (.slice x.a x.ts.length x.c) (.int .i64 (sd4.i : Int)) (.int .i64 (sd4.d : Int)) (.int .i64 sd4.e)) (b + 2) (.int .i64 17) (.string T.s) (.int .i64 0) (nl) (.slice a9 (ul + 1) cap9) = wF := ⟨_, rfl⟩
            rw [hwF] at E1 E2 E3 E4
            replace E1 := Lib.hid E1
            replace E2 := Lib.hid E2
            replace E3 := Lib.hid E3
            replace E4 := Lib.hid E4
            replace hwF := Lib.hid hwF
            obtain ⟨⟨y0, y1, y2, y3⟩, v0, v1, v2, v3⟩ := four_cells F1
            obtain ⟨⟨m0, m1, m2, m3, m4⟩, o0, o1, o2, o3, o4⟩ := five_cells F2
            have hlz : b + 2 < wy.heap.size := (Array.getElem?_eq_some_iff.1 F2).1
            have hlz' : b + 1 < wy.heap.size := by omega
            have TA : Gr (fun k => k = b + 1 ∨ k = b + 2) wx (set4 wy (b + 1) (.slice x.a x.ts.length x.c) (.int .i64 (sd4.i : Int)) (.int .i64 (sd4.d : Int)) (.int .i64 sd4.e)) := (gy.any _).trans' (set4_gr wy (b + 1) _ _ _ _) (fun _ _ e => .inl e)
            have TB : Gr (fun k => k = b + 1 ∨ k = b + 2) wx (set5 (set4 wy (b + 1) (.slice x.a x.ts.length x.c) (.int .i64 (sd4.i : Int)) (.int .i64 (sd4.d : Int)) (.int .i64 sd4.e)) (b + 2) (.int .i64 17) (.string T.s) (.int .i64 0) (nl) (.slice a9 (ul + 1) cap9)) := TA.trans' (set5_gr _ (b + 2) _ _ _ _ _) (fun _ _ e => .inr e)
            refine wpAnyL_one (i := 3) (by kernel_rfl) rfl (fun K hK => ?_)
            go_simp
            refine hK.out _ _ (fun _ => TA) ?_
            clear hK K
            try simp only [Act.put, List.setIfInBounds_toArray, List.set_cons_zero, List.set_cons_succ]
            refine wpAnyL_one (i := 4) (by kernel_rfl) rfl (fun K hK => ?_)
            go_simp
            refine hK.out _ _ (fun _ => TB) ?_
            clear hK K
            try simp only [Act.put, List.setIfInBounds_toArray, List.set_cons_zero, List.set_cons_succ]
            refine wpAnyL_done (by kernel_rfl) ?_ _
            refine NoPanic.normal ?_
            clear TS TA TB
            go_wp2_with fail
            rw [HrR.out]
            rw [show ((((((((wy.setCell ⟨b + 1, 0, none⟩ (.slice x.a x.ts.length x.c)).setCell ⟨b + 1, 1, none⟩ (.int .i64 (sd4.i : Int))).setCell ⟨b + 1, 2, none⟩ (.int .i64 (sd4.d : Int))).setCell ⟨b + 1, 3, none⟩ (.int .i64 sd4.e)).setCell ⟨b + 1 + 1, 0, none⟩ (.int .i64 17)).setCell ⟨b + 1 + 1, 1, none⟩ (.string T.s)).setCell ⟨b + 1 + 1, 2, none⟩ (.int .i64 0)).setCell ⟨b + 1 + 1, 3, none⟩ (nl)).setCell ⟨b + 1 + 1, 4, none⟩ (.slice a9 (ul + 1) cap9) = wF from hwF.out]
            clear y0 y1 y2 y3 v0 v1 v2 v3 m0 m1 m2 m3 m4 o0 o1 o2 o3 o4
            have E1' := E1.out
            have E2' : wF.heap[b + 1 + 1]? = some (.cells #[.int .i64 17, .string T.s, .int .i64 0, nl, .slice a9 (ul + 1) cap9] 30 (0, 0)) := E2.out
            obtain ⟨⟨t0, t1, t2, t3⟩, _⟩ := four_cells E1'
            obtain ⟨⟨s0, s1, s2, s3, s4⟩, _⟩ := five_cells E2'
            refine bodyPost_ret (v := .tuple #[stv x sd4, trv (17) (T.s) (0) (nl) (.slice a9 (ul + 1) cap9)]) (by simp [results, Tryz.results13, go_sem, t0, t1, t2, t3, s0, s1, s2, s3, s4]) rfl ⟨⟨17, T.s, 0, none, 0, 0, a9, ul + 1, cap9, rfl, E3.out, hF.out, E4.out⟩, hgo.out⟩
          case pos =>
            have qk : ((pkT x.ts q).k != 3) = false := by simp [hk]
            have qk' : ((pkT x.ts q).k == 3) = true := by simp [hk]
            obtain ⟨fu, hfu, hPL'⟩ := hk3.out hk
            have Hq2 := Lib.hid hPL'
            have hfu2 := Lib.hid hfu
            obtain ⟨hqe0, hql⟩ := kind_lt (show (pkT x.ts q).k ≠ 0 by rw [hk]; decide)
            have hqe2 := Lib.hid hqe0
            have hql2 := Lib.hid hql
            rw [hk] at hkd qk qk'
            clear hPL' hfu hk3 hkN hqe0 hql hk
            refine hkd.mono ?_
            rintro e wk ⟨rfl, gk⟩
            clear hkd
            replace K0 := Lib.hid (gk.keep K0.out (fun e => e))
            replace K1 := Lib.hid (gk.keep K1.out (fun e => e))
            replace K2 := Lib.hid (gk.keep K2.out (fun e => e))
            replace KT := Lib.hid (gk.keep KT.out (fun e => e))
            replace KL := Lib.hid (KL.out.gr gk (fun _ _ e => e))
            replace KR := Lib.hid (KR.out.g0 gk)
            replace KG := Lib.hid (KG.out.trans gk)
            obtain ⟨ht, hrow, g, o, hxa, hgN, hc⟩ := KR.out.at hqe2.out hql2.out
            replace hxa := Lib.hid hxa
            obtain ⟨TT, hTT⟩ : ∃ TT, pkT x.ts q = TT := ⟨_, rfl⟩
            rw [hTT] at hc Hq2
            clear hTT ht hrow
            have hbt9 := hbt.out
            have tk1 : wk.drew.cell? ⟨g, o + q.i * 5 + 1, none⟩ = some (.string TT.s) := hc 1 _ rfl
            have D0 : wk.drew.heap[b]? = some (stb x q) := K0.out
            have D1 : wk.drew.heap[b + 1]? = some zs := K1.out
            have D2 : wk.drew.heap[b + 2]? = some zt := K2.out
            have DT : wk.drew.heap[tb]? = some (.cells #[.int .i64 17, .string T.s, .int .i64 0, nl, .slice ua ul uc] 30 (0, 0)) := KT.out
            have DL := KL.out.gr (Gr.drew wk (fun _ => False)) (fun _ _ e => e)
            have DR := Lib.hid (KR.out.g0 (Gr.drew wk _))
            have DG := Lib.hid (KG.out.trans (Gr.drew wk _))
            obtain ⟨hLb, m, xs, hrowd, hm, hown, hreps⟩ := DL
            obtain ⟨_, _, hsv⟩ := ownsRow_sv hrowd
            have hul : ul = m := by cases hsv; rfl
            subst hul
            have hOw := Lib.hid hown
            have HrX := Lib.hid hreps
            have HrowD := Lib.hid hrowd
            have hNb9 := hNb.out
            clear hsv hown hreps hc hrowd
            have htl9 : tb < wk.drew.heap.size := (Array.getElem?_eq_some_iff.1 DT).1
            have hqI : (q.i : Int) ≤ 100000 := by have := hqq.out; have := hRm.out; omega
            have hqL := hql2.out
            clear K0 K1 K2 KT KL KR KG
            go_wp2_with fail
            have TS : Gr (fun k => (Value.slice ua ul uc).ownBlock = some k) wk.drew wk.drew := Gr.refl _ _
            refine wp_region_L (L := 13) (T := fun w => Gr (fun k => (Value.slice ua ul uc).ownBlock = some k) wk.drew w) (by kernel_rfl) ?_
            generalize wk.drew = wd at TS D0 D1 D2 DT DR DG tk1 hLb HrowD HrX htl9 ⊢
            have hob : ∀ k, k < tb + 1 → ¬ (Value.slice ua ul uc).ownBlock = some k := fun k hk e => by have h8 : tb + 1 ≤ k := hOw.out k e; omega
            obtain ⟨⟨d0', d1, d2, d3⟩, _⟩ := four_cells D0
            have d0 : wd.cell? ⟨b, 0, none⟩ = some (.slice (some ⟨g, o, none⟩) x.ts.length x.c) := by rw [← hxa.out]; exact d0'
            clear d0'
            obtain ⟨⟨k0, k1, k2, k3, k4⟩, _⟩ := five_cells DT
            refine wpAnyL_at (i := 0) (v := (ptr tb 4)) (some 44) rfl rfl (by kernel_rfl) (by kernel_rfl) (by kernel_rfl) (by kernel_rfl) (by decide) (fun _ _ _ h => h) (Or.inl ⟨by rfl, ?_⟩) TS ?_
            · intro w hSw
              go_simp
              try (intro h; exfalso; omega)
            try simp only [Act.put, List.setIfInBounds_toArray, List.set_cons_zero, List.set_cons_succ]
            refine wpAnyL_at (i := 1) (v := (.slice ua ul uc)) (some 45) rfl rfl (by kernel_rfl) (by kernel_rfl) (by kernel_rfl) (by kernel_rfl) (by decide) (fun _ _ _ h => h) (Or.inl ⟨by rfl, ?_⟩) TS ?_
            · intro w hSw
              have qq0 := cell_gr k4 hSw (hob tb (by omega))
              have qz := World.block_lt_of_cell? _ _ qq0
              go_simp
              try (intro h; exfalso; omega)
            try simp only [Act.put, List.setIfInBounds_toArray, List.set_cons_zero, List.set_cons_succ]
            refine wpAnyL_at (i := 2) (v := (ptr b 0)) (some 46) rfl rfl (by kernel_rfl) (by kernel_rfl) (by kernel_rfl) (by kernel_rfl) (by decide) (fun _ _ _ h => h) (Or.inl ⟨by rfl, ?_⟩) TS ?_
            · intro w hSw
              go_simp
              try (intro h; exfalso; omega)
            try simp only [Act.put, List.setIfInBounds_toArray, List.set_cons_zero, List.set_cons_succ]
            refine wpAnyL_at (i := 3) (v := (.slice (some ⟨g, o, none⟩) x.ts.length x.c)) (some 47) rfl rfl (by kernel_rfl) (by kernel_rfl) (by kernel_rfl) (by kernel_rfl) (by decide) (fun _ _ _ h => h) (Or.inl ⟨by rfl, ?_⟩) TS ?_
            · intro w hSw
              have qq0 := cell_gr d0 hSw (hob b (by omega))
              have qz := World.block_lt_of_cell? _ _ qq0
              go_simp
              try (intro h; exfalso; omega)
            try simp only [Act.put, List.setIfInBounds_toArray, List.set_cons_zero, List.set_cons_succ]
            refine wpAnyL_at (i := 4) (v := (ptr b 1)) (some 48) rfl rfl (by kernel_rfl) (by kernel_rfl) (by kernel_rfl) (by kernel_rfl) (by decide) (fun _ _ _ h => h) (Or.inl ⟨by rfl, ?_⟩) TS ?_
            · intro w hSw
              go_simp
              try (intro h; exfalso; omega)
            try simp only [Act.put, List.setIfInBounds_toArray, List.set_cons_zero, List.set_cons_succ]
            refine wpAnyL_at (i := 5) (v := (.int .i64 (q.i : Int))) (some 49) rfl rfl (by kernel_rfl) (by kernel_rfl) (by kernel_rfl) (by kernel_rfl) (by decide) (fun _ _ _ h => h) (Or.inl ⟨by rfl, ?_⟩) TS ?_
            · intro w hSw
              have qq0 := cell_gr d1 hSw (hob b (by omega))
              have qz := World.block_lt_of_cell? _ _ qq0
              go_simp
              try (intro h; exfalso; omega)
            try simp only [Act.put, List.setIfInBounds_toArray, List.set_cons_zero, List.set_cons_succ]
            refine wpAnyL_at (i := 6) (v := (ptr g (o + q.i * 5))) (some 50) rfl rfl (by kernel_rfl) (by kernel_rfl) (by kernel_rfl) (by kernel_rfl) (by decide) (fun _ _ _ h => h) (Or.inl ⟨by rfl, ?_⟩) TS ?_
            · intro w hSw
              go_simp
              try (intro h; exfalso; omega)
            try simp only [Act.put, List.setIfInBounds_toArray, List.set_cons_zero, List.set_cons_succ]
            refine wpAnyL_at (i := 7) (v := (ptr g (o + q.i * 5 + 1))) (some 51) rfl rfl (by kernel_rfl) (by kernel_rfl) (by kernel_rfl) (by kernel_rfl) (by decide) (fun _ _ _ h => h) (Or.inl ⟨by rfl, ?_⟩) TS ?_
            · intro w hSw
              go_simp
              try (intro h; exfalso; omega)
            try simp only [Act.put, List.setIfInBounds_toArray, List.set_cons_zero, List.set_cons_succ]
            refine wpAnyL_at (i := 8) (v := (.string TT.s)) (some 52) rfl rfl (by kernel_rfl) (by kernel_rfl) (by kernel_rfl) (by kernel_rfl) (by decide) (fun _ _ _ h => h) (Or.inl ⟨by rfl, ?_⟩) TS ?_
            · intro w hSw
              have qq0 := cell_gr tk1 hSw (hob g (by omega))
              have qz := World.block_lt_of_cell? _ _ qq0
              go_simp
              try (intro h; exfalso; omega)
            try simp only [Act.put, List.setIfInBounds_toArray, List.set_cons_zero, List.set_cons_succ]
            refine wpAnyL_at (i := 9) (v := (.agg #[.int .i64 3, .string TT.s, .int .i64 0, nl, nl])) (some 53) rfl rfl (by kernel_rfl) (by kernel_rfl) (by kernel_rfl) (by kernel_rfl) (by decide) (fun _ _ _ h => h) (Or.inl ⟨by rfl, ?_⟩) TS ?_
            · intro w hSw
              go_simp
              try (intro h; exfalso; omega)
            try simp only [Act.put, List.setIfInBounds_toArray, List.set_cons_zero, List.set_cons_succ]
            have TS8 : Gr (fun k => (Value.slice ua ul uc).ownBlock = some k) wd (wd.alloc (.cells #[.int .i64 3, .string TT.s, .int .i64 0, nl, nl] 30)) := Gr.alloc _ _ _
            refine wpAnyL_one (i := 10) (by kernel_rfl) rfl (fun K hK => ?_)
            go_simp
            refine hK.out _ _ (fun _ => TS8) ?_
            clear hK K
            try simp only [Act.put, List.setIfInBounds_toArray, List.set_cons_zero, List.set_cons_succ]
            have hlit := World.ownsRow_lit (base := tb + 1) (e := 30) (size := 5) wd #[.int .i64 3, .string TT.s, .int .i64 0, nl, nl] 1 (by omega) (by unfold maxLen; omega) rfl
            have g8 : Gr (fun _ => False) wd (wd.alloc (.cells #[.int .i64 3, .string TT.s, .int .i64 0, nl, nl] 30)) := Gr.alloc _ _ _
            obtain ⟨nb, hnb⟩ : ∃ nb, wd.heap.size = nb := ⟨_, rfl⟩
            have hr8 := ownsRow_of_block HrowD.out (fun k h1 h2 => g8.block k (ownsRow_lt HrowD.out k h2).2 (fun e => e))
            have hLb8 : tb + 1 ≤ (wd.alloc (.cells #[.int .i64 3, .string TT.s, .int .i64 0, nl, nl] 30)).heap.size := by have := g8.size; omega
            rw [hnb] at hlit ⊢
            generalize wd.alloc _ = w8 at TS8 hlit g8 hr8 hLb8 ⊢
            refine wpAnyL_one (i := 11) (by kernel_rfl) rfl (fun K hK => ?_)
            refine step_own rfl _ _ rfl (tb + 1) (tb + 1) (.slice ua ul uc) (.slice (some ⟨nb, 0, none⟩) 1 1) ul 1 xs [.int .i64 3, .string TT.s, .int .i64 0, nl, nl] rfl rfl hr8 hlit (by intro u hu; simp only [List.mem_cons, List.not_mem_nil, or_false] at hu; rcases hu with rfl | rfl | rfl | rfl | rfl <;> rfl) (by have := hmx.out; have := hqq.out; have := hRm.out; omega) hLb8 ?_
            intro v9 w9 hrow9 hgr9 hloc9
            obtain ⟨a9, cap9, rfl⟩ := ownsRow_sv hrow9
            have Gg : Gr (fun k => (Value.slice ua ul uc).ownBlock = some k) w8 w9 := Gr.of_grown hgr9 (fun z e => e)
            have TS9 : Gr (fun k => (Value.slice ua ul uc).ownBlock = some k) wd w9 := (g8.any _).trans Gg
            refine hK.out _ _ (fun _ => TS9) ?_
            clear hK K
            try simp only [Act.put, List.setIfInBounds_toArray, List.set_cons_zero, List.set_cons_succ]
            have L9 : LrE (tb + 1) (fun z => tb + 1 ≤ z) w9 (l' ++ [.mk 3 TT.s 0 [] []]) (.slice a9 (ul + 1) cap9) q.next := by
              refine LrE.grown (q := q) hLb8 hr8 ⟨hmx.out, hm.2⟩ (by show q.i ≤ q.i + 1; omega) hOw.out (fun z hz => by show tb + 1 ≤ z; omega) (fun e => ?_) (fun e => e) (fun e => ⟨nl, nl, [], rfl, .inl ⟨rfl, _, _, rfl⟩, .inl ⟨rfl, _, _, rfl⟩, rfl⟩) hgr9 hloc9 hrow9 ⟨rfl, rfl⟩
              obtain ⟨e1, vs, e2, e3⟩ := HrX.out e
              exact ⟨e1, vs, e2, e3.turn (fun z hz hl => ⟨hz, g8.block z hl (fun e => e)⟩)⟩
            have n9 : w9.heap[tb]? = some (.cells #[.int .i64 17, .string T.s, .int .i64 0, nl, .slice ua ul uc] 30 (0, 0)) := TS9.keep DT (hob tb (by omega))
            obtain ⟨⟨q0, q1, q2, q3, q4⟩, qf0, qf1, qf2, qf3, qf4⟩ := five_cells n9
            have ht9 : tb < w9.heap.size := (Array.getElem?_eq_some_iff.1 n9).1
            have gs4 : Gr (fun k => k = tb) w9 (w9.setCell ⟨tb, 4, none⟩ (.slice a9 (ul + 1) cap9)) := Gr.set _ _ _ rfl
            have ZT : (w9.setCell ⟨tb, 4, none⟩ (.slice a9 (ul + 1) cap9)).heap[tb]? = some (.cells #[.int .i64 17, .string T.s, .int .i64 0, nl, .slice a9 (ul + 1) cap9] 30 (0, 0)) := heap_setCell_same w9 tb 4 _ 30 _ n9
            have Z0 := gs4.keep (TS9.keep D0 (hob b (by omega))) (by omega)
            have Z1 := Lib.hid (gs4.keep (TS9.keep D1 (hob _ (by omega))) (by omega))
            have Z2 := Lib.hid (gs4.keep (TS9.keep D2 (hob _ (by omega))) (by omega))
            have ZG : Hid (Gr (fun _ => False) W (w9.setCell ⟨tb, 4, none⟩ (.slice a9 (ul + 1) cap9))) := (DG.out.trans' TS9 (fun k hk e => by have h8 : tb + 1 ≤ k := hOw.out k e; have := hbW.out; omega)).trans' gs4 (fun k hk e => by have := hbW.out; omega)
            have ZR := Lib.hid ((DR.out.gr TS9 (fun k hk e => by have h8 : tb + 1 ≤ k := hOw.out k e; omega)).gr gs4 (fun k hk e => by omega))
            have ZL := Lib.hid (L9.gr gs4 (fun k hk e => by have h8 : tb + 1 ≤ k := hk; omega))
            replace ZT := Lib.hid ZT
            refine wpAnyL_at (i := 12) (v := (ptr tb 4)) (some 56) rfl rfl (by kernel_rfl) (by kernel_rfl) (by kernel_rfl) (by kernel_rfl) (by decide) (fun _ _ _ h => h) (Or.inl ⟨by rfl, ?_⟩) TS9 ?_
            · intro w hSw
              go_simp
              try (intro h; exfalso; omega)
            try simp only [Act.put, List.setIfInBounds_toArray, List.set_cons_zero, List.set_cons_succ]
            refine wpAnyL_one (i := 13) (by kernel_rfl) rfl (fun K hK => ?_)
            go_simp
            refine hK.out _ _ (fun h => absurd rfl h) ?_
            clear hK K
            try simp only [Act.put, List.setIfInBounds_toArray, List.set_cons_zero, List.set_cons_succ]
            refine wpAnyL_done (by kernel_rfl) ?_ _
            refine NoPanic.normal ?_
            clear q0 q1 q2 q3 q4 qf0 qf1 qf2 qf3 qf4 ht9 k0 k1 k2 k3 k4 d0 d1 d2 d3 TS TS8 L9 n9
            generalize w9.setCell ⟨tb, 4, none⟩ _ = Z at gs4 ZT Z0 Z1 Z2 ZG ZR ZL ⊢
            obtain ⟨⟨c0, c1, c2, c3⟩, f0, f1, f2, f3⟩ := four_cells Z0
            have hbz : b < Z.heap.size := (Array.getElem?_eq_some_iff.1 Z0).1
            have gy : Gr (fun k => k = b) Z (Z.setCell ⟨b, 1, none⟩ (.int .i64 ((q.i : Int) + 1))) := Gr.set _ _ _ rfl
            have Y0 : Hid ((Z.setCell ⟨b, 1, none⟩ (.int .i64 ((q.i : Int) + 1))).heap[b]? = some (stb x q.next)) := heap_setCell_same Z b 1 _ 45 _ Z0
            have Y1 := Lib.hid (gy.keep Z1.out (by omega))
            have Y2 := Lib.hid (gy.keep Z2.out (by omega))
            have YT := Lib.hid (gy.keep ZT.out (by omega))
            have YG := Lib.hid (ZG.out.trans' gy (fun k hk e => by have := hbW.out; omega))
            have YR : Hid (Rz x (Z.setCell ⟨b, 1, none⟩ (.int .i64 ((q.i : Int) + 1))) q.next) := (ZR.out.gr gy (fun k hk e => by omega)).to (by show q.i + 1 ≤ _; omega) ZR.out.hd
            have YL := Lib.hid (ZL.out.gr gy (fun k hk e => by have h8 : tb + 1 ≤ k := hk; omega))
            clear gs4 gy Z0 Z1 Z2 ZT ZG ZR ZL
            go_wp2_with fail
            refine ⟨⟨false, _, q.next, fu, a9, ul + 1, cap9, rfl, (by have := hmx.out; show _ ≤ q.i + 1; omega), (by have := hfu2.out; exact this), Hq2, YL.out, YR.out, Y0.out, Y1.out, Y2.out, YT.out, ?_, YG⟩, ?_⟩
            · have h1 := hqq.out
              exact ⟨h1.1, by show p.i ≤ q.i + 1; omega, hqL⟩
            · have ea : atP (Z.setCell ⟨b, 1, none⟩ (.int .i64 ((q.i : Int) + 1))) b = q.i + 1 := by
                obtain ⟨⟨_, e1, _, _⟩, _⟩ := four_cells Y0.out
                simp [atP, e1, Ps.next]
              rw [ea, Hat.out]
              have h1 := hqq.out
              omega
        | false =>
          obtain ⟨hk3', hkN'⟩ := HV_next f l' q hs hf.out
          have hk3a : Hid ((pkT x.ts (wantV x.ts cma q)).k = 3 → ∃ fu, x.ts.length ≤ fu + (q.i + 1) ∧ PL = HV x.ts false fu (l' ++ [.mk 3 (pkT x.ts (wantV x.ts cma q)).s 0 [] []]) (wantV x.ts cma q).next) := fun h => by rw [Hq.out]; exact hk3' h
          have hkN : Hid ((pkT x.ts (wantV x.ts cma q)).k ≠ 3 → wantV x.ts shutR (failV 160 (wantV x.ts cma q)) = wantV x.ts shutR PL.2) := fun h => by rw [Hq.out]; exact hkN' h
          have hwic := Lib.hid (wantV_i x.ts cma q hq.out.2.2)
          have hwc := Lib.hid (fun w (g : Gr (fun _ => False) wr w) => rwant_c (KR.out.g0 g) cma)
          generalize wantV x.ts cma q = qn at hk3a hkN hwic hwc hk3' hkN'
          have hqq : Hid (qn.d = p.d ∧ p.i ≤ qn.i ∧ qn.i ≤ x.ts.length ∧ q.i ≤ qn.i) := by
            have h1 := hwic.out
            have h2 := hq.out
            exact ⟨by omega, by omega, h1.2.2.1, h1.2.1⟩
          have hk3 : Hid ((pkT x.ts qn).k = 3 → ∃ fu, x.ts.length ≤ fu + (qn.i + 1) ∧ PL = HV x.ts false fu (l' ++ [.mk 3 (pkT x.ts qn).s 0 [] []]) qn.next) := fun h => by
            obtain ⟨fu, h1, h2⟩ := hk3a.out h
            have h3 := hwic.out
            exact ⟨fu, by omega, h2⟩
          replace hmx : Hid (ul ≤ qn.i) := by have := hmx.out; have := hwic.out; show _ ≤ _; omega
          clear hs Hq hf hk3' hkN' hk3a
          go_wp2_with fail
          refine his.mono ?_
          rintro e w2z ⟨rfl, g2z⟩
          clear c0 c1 c2 c3 f0 f1 f2 f3 his hbl
          have hwc2 := Lib.hid (hwc.out w2z g2z)
          replace K0 := Lib.hid (g2z.keep K0.out (fun e => e))
          replace K1 := Lib.hid (g2z.keep K1.out (fun e => e))
          replace K2 := Lib.hid (g2z.keep K2.out (fun e => e))
          replace KT := Lib.hid (g2z.keep KT.out (fun e => e))
          replace KL := Lib.hid (KL.out.gr g2z (fun _ _ e => e))
          replace KR := Lib.hid (KR.out.g0 g2z)
          replace KG := Lib.hid (KG.out.trans g2z)
          obtain ⟨⟨c0, c1, c2, c3⟩, f0, f1, f2, f3⟩ := four_cells K0.out
          have hbl : b < w2z.heap.size := (Array.getElem?_eq_some_iff.1 K0.out).1
          clear hwc
          go_wp2_with fail
          refine hwc2.out.mono ?_
          rintro e w3z ⟨rfl, g3z⟩
          clear c0 c1 c2 c3 f0 f1 f2 f3 hwc2 hbl
          replace K0 := Lib.hid (g3z.keep K0.out (fun e => e))
          replace K1 := Lib.hid (g3z.keep K1.out (fun e => e))
          replace K2 := Lib.hid (g3z.keep K2.out (fun e => e))
          replace KT := Lib.hid (g3z.keep KT.out (fun e => e))
          replace KL := Lib.hid (KL.out.gr g3z (fun _ _ e => e))
          replace KR := Lib.hid (KR.out.g0 g3z)
          replace KG := Lib.hid (KG.out.trans g3z)
          have gs : Gr (fun k => k = b) w3z ((((w3z.setCell ⟨b, 0, none⟩ (.slice x.a x.ts.length x.c)).setCell ⟨b, 1, none⟩ (.int .i64 (qn.i : Int))).setCell ⟨b, 2, none⟩ (.int .i64 (qn.d : Int))).setCell ⟨b, 3, none⟩ (.int .i64 qn.e)) := set4_gr w3z b (.slice x.a x.ts.length x.c) (.int .i64 (qn.i : Int)) (.int .i64 (qn.d : Int)) (.int .i64 qn.e)
          have N0 : Hid (((((w3z.setCell ⟨b, 0, none⟩ (.slice x.a x.ts.length x.c)).setCell ⟨b, 1, none⟩ (.int .i64 (qn.i : Int))).setCell ⟨b, 2, none⟩ (.int .i64 (qn.d : Int))).setCell ⟨b, 3, none⟩ (.int .i64 qn.e)).heap[b]? = some (stb x qn)) := set4_heap K0.out (.slice x.a x.ts.length x.c) (.int .i64 (qn.i : Int)) (.int .i64 (qn.d : Int)) (.int .i64 qn.e)
          have hbt9 := hbt.out
          have N1 := Lib.hid (gs.keep K1.out (by omega))
          have N2 := Lib.hid (gs.keep K2.out (by omega))
          have NT := Lib.hid (gs.keep KT.out (by omega))
          have NR := Lib.hid ((KR.out.to (p' := qn) hwic.out.2.2.1 (by have := hwic.out.1; have := KR.out.hd; omega)).gr gs (fun k hk e => by have := hNb.out; omega))
          have NL := Lib.hid ((KL.out.st hwic.out.2.1 hwic.out.2.2.2).gr gs (fun k hk e => by have h8 : tb + 1 ≤ k := hk; omega))
          have NG := Lib.hid (KG.out.trans' gs (fun k hk e => by have := hbW.out; omega))
          obtain ⟨⟨c0, c1, c2, c3⟩, f0, f1, f2, f3⟩ := four_cells K0.out
          have hbl : b < w3z.heap.size := (Array.getElem?_eq_some_iff.1 K0.out).1
          clear gs K0 K1 K2 KT KR KL KG
          have hkd := Lib.hid (rkind_c NR.out)
          go_wp2_with fail
          generalize (((w3z.setCell ⟨b, 0, none⟩ (.slice x.a x.ts.length x.c)).setCell ⟨b, 1, none⟩ (.int .i64 (qn.i : Int))).setCell ⟨b, 2, none⟩ (.int .i64 (qn.d : Int))).setCell ⟨b, 3, none⟩ (.int .i64 qn.e) = wq at N0 N1 N2 NT NR NL NG hkd ⊢
          have K0 := N0
          have K1 := N1
          have K2 := N2
          have KT := NT
          have KR := NR
          have KL := NL
          have KG := NG
          clear N0 N1 N2 NT NR NL NG c0 c1 c2 c3 f0 f1 f2 f3 hbl hbt9
          replace hkd := hkd.out
          by_cases hk : (pkT x.ts qn).k = 3
          case neg =>
            have qk : ((pkT x.ts qn).k != 3) = true := by rw [bne_iff_ne]; exact hk
            have qk' : ((pkT x.ts qn).k == 3) = false := by simpa using hk
            have hkx := Lib.hid (hkN.out hk)
            obtain ⟨q2, hq2⟩ : ∃ q2, q2 = failV 160 qn := ⟨_, rfl⟩
            have hbd := Lib.hid (fun w => rbad_c (x := x) w qn 160)
            have hfe := Lib.hid (failV_e 160 (by decide) qn)
            have hfs := Lib.hid (failV_same 160 qn)
            rw [← hq2] at hbd hkx hfe hfs
            have hwi : Hid (q2.d = qn.d ∧ qn.i ≤ q2.i ∧ q2.i ≤ x.ts.length ∧ (q2.e = 0 → qn.e = 0)) := by
              have h1 := hfs.out
              have h2 := hqq.out
              exact ⟨h1.2, by omega, by omega, fun e => absurd e hfe.out⟩
            replace hk := Lib.hid hk
            clear hq2 hk3 hkN
            generalize (pkT x.ts qn).k = kk at hkd qk qk' hk
            refine hkd.mono ?_
            rintro e wk ⟨rfl, gk⟩
            replace K0 := Lib.hid (gk.keep K0.out (fun e => e))
            replace K1 := Lib.hid (gk.keep K1.out (fun e => e))
            replace K2 := Lib.hid (gk.keep K2.out (fun e => e))
            replace KT := Lib.hid (gk.keep KT.out (fun e => e))
            replace KL := Lib.hid (KL.out.gr gk (fun _ _ e => e))
            replace KR := Lib.hid (KR.out.g0 gk)
            replace KG := Lib.hid (KG.out.trans gk)
            obtain ⟨⟨c0, c1, c2, c3⟩, f0, f1, f2, f3⟩ := four_cells K0.out
            have hbl : b < wk.heap.size := (Array.getElem?_eq_some_iff.1 K0.out).1
            go_wp2_with fail
            refine (hbd.out wk).mono ?_
            rintro e wl ⟨rfl, gl⟩
            clear c0 c1 c2 c3 f0 f1 f2 f3 hbl hkd
            replace K0 := Lib.hid (gl.keep K0.out (fun e => e))
            replace K1 := Lib.hid (gl.keep K1.out (fun e => e))
            replace K2 := Lib.hid (gl.keep K2.out (fun e => e))
            replace KT := Lib.hid (gl.keep KT.out (fun e => e))
            replace KL := Lib.hid (KL.out.gr gl (fun _ _ e => e))
            replace KR := Lib.hid (KR.out.g0 gl)
            replace KG := Lib.hid (KG.out.trans gl)
            have gs : Gr (fun k => k = b) wl ((((wl.setCell ⟨b, 0, none⟩ (.slice x.a x.ts.length x.c)).setCell ⟨b, 1, none⟩ (.int .i64 (q2.i : Int))).setCell ⟨b, 2, none⟩ (.int .i64 (q2.d : Int))).setCell ⟨b, 3, none⟩ (.int .i64 q2.e)) := set4_gr wl b (.slice x.a x.ts.length x.c) (.int .i64 (q2.i : Int)) (.int .i64 (q2.d : Int)) (.int .i64 q2.e)
            have N0 : Hid (((((wl.setCell ⟨b, 0, none⟩ (.slice x.a x.ts.length x.c)).setCell ⟨b, 1, none⟩ (.int .i64 (q2.i : Int))).setCell ⟨b, 2, none⟩ (.int .i64 (q2.d : Int))).setCell ⟨b, 3, none⟩ (.int .i64 q2.e)).heap[b]? = some (stb x q2)) := set4_heap K0.out (.slice x.a x.ts.length x.c) (.int .i64 (q2.i : Int)) (.int .i64 (q2.d : Int)) (.int .i64 q2.e)
            have hbt9 := hbt.out
            have N1 := Lib.hid (gs.keep K1.out (by omega))
            have N2 := Lib.hid (gs.keep K2.out (by omega))
            have NT := Lib.hid (gs.keep KT.out (by omega))
            have NR := Lib.hid ((KR.out.to (p' := q2) hwi.out.2.2.1 (by have := hwi.out.1; have := KR.out.hd; omega)).gr gs (fun k hk e => by have := hNb.out; omega))
            have NL := Lib.hid ((KL.out.st hwi.out.2.1 hwi.out.2.2.2).gr gs (fun k hk e => by have h8 : tb + 1 ≤ k := hk; omega))
            have NG := Lib.hid (KG.out.trans' gs (fun k hk e => by have := hbW.out; omega))
            obtain ⟨⟨c0, c1, c2, c3⟩, f0, f1, f2, f3⟩ := four_cells K0.out
            have hbl : b < wl.heap.size := (Array.getElem?_eq_some_iff.1 K0.out).1
            clear gs K0 K1 K2 KT KR KL KG
            have hmx2 : Hid (ul ≤ q2.i) := by have := hmx.out; have := hwi.out; show _ ≤ _; omega
            have hmx := hmx2
            have hq : Hid (q2.d = p.d ∧ p.i ≤ q2.i ∧ q2.i ≤ x.ts.length) := by
              have h1 := hwi.out
              have h2 := hqq.out
              exact ⟨by omega, by omega, h1.2.2.1⟩
            have Hx : Hid (wantV x.ts shutR q2 = wantV x.ts shutR PL.2 ∧ (q2.e = 0 → l' = PL.1)) := ⟨hkx.out, fun e => absurd e hfe.out⟩
            have hw1 := Lib.hid (rwant_c NR.out shutR)
            have hi1 := Lib.hid (wantV_i x.ts shutR q2 NR.out.hi)
            have Hx1 : Hid (wantV x.ts shutR PL.2 = wantV x.ts shutR q2) := Hx.out.1.symm
            have Hx2 : Hid (q2.e = 0 → l' = PL.1) := Hx.out.2
            have HrR : Hid (r = (.mk 17 T.s 0 [] (PL.1 ++ [(bodyV x.ts ex (wantV x.ts arw (wantV x.ts shutR q2))).1]), wantV x.ts dot (bodyV x.ts ex (wantV x.ts arw (wantV x.ts shutR q2))).2)) := by
              show r = _
              rw [Hr.out, Hx1.out]
            generalize wantV x.ts shutR q2 = sa1 at hw1 hi1 HrR ⊢
            clear Hx Hx1
            go_wp2_with fail
            generalize (((wl.setCell ⟨b, 0, none⟩ (.slice x.a x.ts.length x.c)).setCell ⟨b, 1, none⟩ (.int .i64 (q2.i : Int))).setCell ⟨b, 2, none⟩ (.int .i64 (q2.d : Int))).setCell ⟨b, 3, none⟩ (.int .i64 q2.e) = wm at N0 N1 N2 NT NR NL NG hw1 ⊢
            have K0 := N0
            have K1 := N1
            have K2 := N2
            have KT := NT
            have KR := NR
            have KL := NL
            have KG := NG
            clear N0 N1 N2 NT NR NL NG c0 c1 c2 c3 f0 f1 f2 f3 hbl hbt9
            refine hw1.out.mono ?_
            rintro e wa ⟨rfl, ga⟩
            clear hw1
            replace K0 := Lib.hid (ga.keep K0.out (fun e => e))
            replace K1 := Lib.hid (ga.keep K1.out (fun e => e))
            replace K2 := Lib.hid (ga.keep K2.out (fun e => e))
            replace KT := Lib.hid (ga.keep KT.out (fun e => e))
            replace KL := Lib.hid (KL.out.gr ga (fun _ _ e => e))
            replace KR := Lib.hid (KR.out.g0 ga)
            replace KG := Lib.hid (KG.out.trans ga)
            have gs : Gr (fun k => k = b) wa ((((wa.setCell ⟨b, 0, none⟩ (.slice x.a x.ts.length x.c)).setCell ⟨b, 1, none⟩ (.int .i64 (sa1.i : Int))).setCell ⟨b, 2, none⟩ (.int .i64 (sa1.d : Int))).setCell ⟨b, 3, none⟩ (.int .i64 sa1.e)) := set4_gr wa b (.slice x.a x.ts.length x.c) (.int .i64 (sa1.i : Int)) (.int .i64 (sa1.d : Int)) (.int .i64 sa1.e)
            have N0 : Hid (((((wa.setCell ⟨b, 0, none⟩ (.slice x.a x.ts.length x.c)).setCell ⟨b, 1, none⟩ (.int .i64 (sa1.i : Int))).setCell ⟨b, 2, none⟩ (.int .i64 (sa1.d : Int))).setCell ⟨b, 3, none⟩ (.int .i64 sa1.e)).heap[b]? = some (stb x sa1)) := set4_heap K0.out (.slice x.a x.ts.length x.c) (.int .i64 (sa1.i : Int)) (.int .i64 (sa1.d : Int)) (.int .i64 sa1.e)
            have hbt9 := hbt.out
            have N1 := Lib.hid (gs.keep K1.out (by omega))
            have N2 := Lib.hid (gs.keep K2.out (by omega))
            have NT := Lib.hid (gs.keep KT.out (by omega))
            have NR := Lib.hid ((KR.out.to (p' := sa1) hi1.out.2.2.1 (by have := hi1.out.1; have := KR.out.hd; omega)).gr gs (fun k hk e => by have := hNb.out; omega))
            have NL := Lib.hid ((KL.out.st hi1.out.2.1 hi1.out.2.2.2).gr gs (fun k hk e => by have h8 : tb + 1 ≤ k := hk; omega))
            have NG := Lib.hid (KG.out.trans' gs (fun k hk e => by have := hbW.out; omega))
            obtain ⟨⟨c0, c1, c2, c3⟩, f0, f1, f2, f3⟩ := four_cells K0.out
            have hbl : b < wa.heap.size := (Array.getElem?_eq_some_iff.1 K0.out).1
            clear gs K0 K1 K2 KT KR KL KG
            have hw2 := Lib.hid (rwant_c NR.out arw)
            have hi2 := Lib.hid (wantV_i x.ts arw sa1 NR.out.hi)
            generalize wantV x.ts arw sa1 = sb2 at hw2 hi2 HrR ⊢
            go_wp2_with fail
            generalize (((wa.setCell ⟨b, 0, none⟩ (.slice x.a x.ts.length x.c)).setCell ⟨b, 1, none⟩ (.int .i64 (sa1.i : Int))).setCell ⟨b, 2, none⟩ (.int .i64 (sa1.d : Int))).setCell ⟨b, 3, none⟩ (.int .i64 sa1.e) = wb at N0 N1 N2 NT NR NL NG hw2 ⊢
            have K0 := N0
            have K1 := N1
            have K2 := N2
            have KT := NT
            have KR := NR
            have KL := NL
            have KG := NG
            clear N0 N1 N2 NT NR NL NG c0 c1 c2 c3 f0 f1 f2 f3 hbl hbt9
            refine hw2.out.mono ?_
            rintro e wc ⟨rfl, gc⟩
            clear hw2
            replace K0 := Lib.hid (gc.keep K0.out (fun e => e))
            replace K1 := Lib.hid (gc.keep K1.out (fun e => e))
            replace K2 := Lib.hid (gc.keep K2.out (fun e => e))
            replace KT := Lib.hid (gc.keep KT.out (fun e => e))
            replace KL := Lib.hid (KL.out.gr gc (fun _ _ e => e))
            replace KR := Lib.hid (KR.out.g0 gc)
            replace KG := Lib.hid (KG.out.trans gc)
            have gs : Gr (fun k => k = b) wc ((((wc.setCell ⟨b, 0, none⟩ (.slice x.a x.ts.length x.c)).setCell ⟨b, 1, none⟩ (.int .i64 (sb2.i : Int))).setCell ⟨b, 2, none⟩ (.int .i64 (sb2.d : Int))).setCell ⟨b, 3, none⟩ (.int .i64 sb2.e)) := set4_gr wc b (.slice x.a x.ts.length x.c) (.int .i64 (sb2.i : Int)) (.int .i64 (sb2.d : Int)) (.int .i64 sb2.e)
            have N0 : Hid (((((wc.setCell ⟨b, 0, none⟩ (.slice x.a x.ts.length x.c)).setCell ⟨b, 1, none⟩ (.int .i64 (sb2.i : Int))).setCell ⟨b, 2, none⟩ (.int .i64 (sb2.d : Int))).setCell ⟨b, 3, none⟩ (.int .i64 sb2.e)).heap[b]? = some (stb x sb2)) := set4_heap K0.out (.slice x.a x.ts.length x.c) (.int .i64 (sb2.i : Int)) (.int .i64 (sb2.d : Int)) (.int .i64 sb2.e)
            have hbt9 := hbt.out
            have N1 := Lib.hid (gs.keep K1.out (by omega))
            have N2 := Lib.hid (gs.keep K2.out (by omega))
            have NT := Lib.hid (gs.keep KT.out (by omega))
            have NR := Lib.hid ((KR.out.to (p' := sb2) hi2.out.2.2.1 (by have := hi2.out.1; have := KR.out.hd; omega)).gr gs (fun k hk e => by have := hNb.out; omega))
            have NL := Lib.hid ((KL.out.st hi2.out.2.1 hi2.out.2.2.2).gr gs (fun k hk e => by have h8 : tb + 1 ≤ k := hk; omega))
            have NG := Lib.hid (KG.out.trans' gs (fun k hk e => by have := hbW.out; omega))
            obtain ⟨⟨c0, c1, c2, c3⟩, f0, f1, f2, f3⟩ := four_cells K0.out
            have hbl : b < wc.heap.size := (Array.getElem?_eq_some_iff.1 K0.out).1
            clear gs K0 K1 K2 KT KR KL KG
            have hw3 := Lib.hid (rbody_c d ex hex _ sb2 NR.out (by have := hi2.out; have := hi1.out; have := hq.out; have := Hd.out; omega))
            have hse3 : Hid ((bodyV x.ts ex sb2).2.e = 0 → sb2.e = 0) := fun e => by
              by_cases h0 : sb2.e = 0
              · exact h0
              · have e1 : (bodyV x.ts ex sb2).2 = sb2 := sevV_err hse h0 cma
                rw [e1] at e
                exact e
            go_wp2_with fail
            generalize (((wc.setCell ⟨b, 0, none⟩ (.slice x.a x.ts.length x.c)).setCell ⟨b, 1, none⟩ (.int .i64 (sb2.i : Int))).setCell ⟨b, 2, none⟩ (.int .i64 (sb2.d : Int))).setCell ⟨b, 3, none⟩ (.int .i64 sb2.e) = wd at N0 N1 N2 NT NR NL NG hw3 ⊢
            have K0 := N0
            have K1 := N1
            have K2 := N2
            have KT := NT
            have KR := NR
            have KL := NL
            have KG := NG
            clear N0 N1 N2 NT NR NL NG c0 c1 c2 c3 f0 f1 f2 f3 hbl hbt9
            refine hw3.out.mono ?_
            rintro e we ⟨bk, bs, bn, b1', m1, d1, b2', m2, d2, rfl, rep8, hi8, g8⟩
            generalize (bodyV x.ts ex sb2).2 = sc3 at HrR rep8 hi8 hse3 ⊢
            generalize (bodyV x.ts ex sb2).1 = U at HrR rep8 ⊢
            have Hi8 := Lib.hid hi8
            have hown : Hid (∀ k, (Value.slice ua ul uc).ownBlock = some k → k < wd.heap.size) := by
              obtain ⟨_, _, _, hr3, _⟩ := KL.out
              exact fun k hk => (ownsRow_lt hr3 k hk).2
            have htbd : Hid (tb + 1 ≤ wd.heap.size) := (Array.getElem?_eq_some_iff.1 KT.out).1
            have rU : Hid (sc3.e = 0 → Rep (fun z => tb + 1 ≤ z ∧ (Value.slice ua ul uc).ownBlock ≠ some z) we U (trv bk bs bn (.slice b1' m1 d1) (.slice b2' m2 d2))) := fun e => (rep8 e).turn (fun z hz hl => by
              have h7 : wd.heap.size ≤ z := hz
              refine ⟨⟨by have := htbd.out; omega, fun e => ?_⟩, rfl⟩
              have := hown.out z e
              omega)
            replace K0 := Lib.hid (g8.keep K0.out (fun e => e))
            replace K1 := Lib.hid (g8.keep K1.out (fun e => e))
            replace K2 := Lib.hid (g8.keep K2.out (fun e => e))
            replace KT := Lib.hid (g8.keep KT.out (fun e => e))
            replace KL := Lib.hid (KL.out.gr g8 (fun _ _ e => e))
            replace KR := Lib.hid (KR.out.g0 g8)
            replace KG := Lib.hid (KG.out.trans g8)
            obtain ⟨⟨c0, c1, c2, c3⟩, f0, f1, f2, f3⟩ := four_cells K0.out
            obtain ⟨⟨n0, n1, n2, n3, n4⟩, l0, l1, l2, l3, l4⟩ := five_cells KT.out
            have hbl : b < we.heap.size := (Array.getElem?_eq_some_iff.1 K0.out).1
            have htl : tb < we.heap.size := (Array.getElem?_eq_some_iff.1 KT.out).1
            have hbt9 := hbt.out
            have hn1 : tb ≠ b := by omega
            have hn2 : b ≠ tb := by omega
            have hmq : Hid (ul ≤ sb2.i) := by have := hmx.out; have := hi1.out; have := hi2.out; show _ ≤ _; omega
            have hs2l : Hid (sb2.i ≤ x.ts.length) := hi2.out.2.2.1
            clear hw3 rep8 hi8 g8
            go_wp2_with (first
              | (at_builtin; generalize hX : World.alloc (World.alloc (World.setCell _ _ _) _) _ = X; obtain ⟨gX, X0, Xs, Xc, XU⟩ := app1_x (A := fun z => tb + 1 ≤ z ∧ (Value.slice ua ul uc).ownBlock ≠ some z) (U := U) K0.out hX (fun z hz => by omega) rU.out; obtain ⟨hLb, m, xs, hrow, hm, hownX, hreps⟩ := (KL.out.gr gX (fun k hk e => by have h8 : tb + 1 ≤ k := hk; omega)); obtain ⟨_, _, hsv⟩ := ownsRow_sv hrow; have hul : ul = m := (by cases hsv; rfl); subst hul; clear hsv; have HXU := Lib.hid XU; have HrX := Lib.hid hreps; have HoX := Lib.hid hownX; clear XU hreps hownX; refine wpList_own2 _ rfl 28 _ _ rfl (tb + 1) 30 i0 (trv 0 e0 0 nl nl) 5 80 Tryz.underlying28 hi0 hz0' hz1 hz2 rfl (by decide) (.slice ua ul uc) ul xs ⟨we.heap.size + 1, 0, none⟩ 1 1 [.int .i64 bk, .string bs, .int .i64 bn, .slice b1' m1 d1, .slice b2' m2 d2] rfl rfl hrow rfl Xc (by simp [Value.oneCell']) (by unfold maxLen; have := hmq.out; have := hRm.out; have := hs2l.out; omega) (by have := hmq.out; have := hRm.out; have := hs2l.out; omega) (by omega) ?_; intro v' w9 hrow9 hgr9 hloc9; obtain ⟨a9, cap9, rfl⟩ := ownsRow_sv hrow9; clear hX; have Gg : Gr (fun k => (Value.slice ua ul uc).ownBlock = some k) X w9 := Gr.of_grown hgr9 (fun z e => e); have n9 : w9.heap[tb]? = some (.cells #[.int .i64 17, .string T.s, .int .i64 0, nl, .slice ua ul uc] 30 (0, 0)) := Gg.keep (gX.keep KT.out (by omega)) (fun e => by have h8 : tb + 1 ≤ tb := HoX.out tb e; omega); have K9 := Lib.hid n9; obtain ⟨⟨q0, q1, q2, q3, q4⟩, qf0, qf1, qf2, qf3, qf4⟩ := five_cells n9; have htl9 : tb < w9.heap.size := (Array.getElem?_eq_some_iff.1 n9).1; clear n9)
              | fail)
            have L9 : LrE (tb + 1) (fun z => tb + 1 ≤ z) w9 (l' ++ [U]) (.slice a9 (ul + 1) cap9) sc3 := LrE.grown (q := sb2) hLb hrow ⟨hmq.out, hm.2⟩ Hi8.out.2.1 HoX.out (fun z hz => by have h8 := hLb; show tb + 1 ≤ z; omega) (fun e => HrX.out e) (fun e => hse3.out e) (fun e => HXU.out e) hgr9 hloc9 hrow9 ⟨rfl, rfl⟩
            have gs4 : Gr (fun k => k = tb) w9 (w9.setCell ⟨tb, 4, none⟩ (.slice a9 (ul + 1) cap9)) := Gr.set _ _ _ rfl
            have ZT : (w9.setCell ⟨tb, 4, none⟩ (.slice a9 (ul + 1) cap9)).heap[tb]? = some (.cells #[.int .i64 17, .string T.s, .int .i64 0, nl, .slice a9 (ul + 1) cap9] 30 (0, 0)) := heap_setCell_same w9 tb 4 _ 30 _ K9.out
            have ZB := gs4.keep (Gg.keep X0 (fun e => by have h8 : tb + 1 ≤ b := HoX.out b e; omega)) hn2
            have Z1 := gs4.keep (Gg.keep (gX.keep K1.out (by omega)) (fun e => by have h8 : tb + 1 ≤ b + 1 := HoX.out _ e; omega)) (by omega)
            have Z2 := gs4.keep (Gg.keep (gX.keep K2.out (by omega)) (fun e => by have h8 : tb + 1 ≤ b + 2 := HoX.out _ e; omega)) (by omega)
            have ZG := ((KG.out.trans' gX (fun k hk e => by have := hbW.out; omega)).trans' Gg (fun k hk e => by have h8 : tb + 1 ≤ k := HoX.out k e; have := hbW.out; omega)).trans' gs4 (fun k hk e => by have := hbW.out; omega)
            have ZR : Rz x (w9.setCell ⟨tb, 4, none⟩ (.slice a9 (ul + 1) cap9)) sc3 := (((KR.out.gr gX (fun k hk e => by have := hNb.out; omega)).gr Gg (fun k hk e => by have h8 : tb + 1 ≤ k := HoX.out k e; have := hNb.out; omega)).gr gs4 (fun k hk e => by have := hNb.out; omega)).to Hi8.out.2.2 (by have := Hi8.out.1; have := KR.out.hd; omega)
            have ZL := L9.gr gs4 (fun k hk e => by have h8 : tb + 1 ≤ k := hk; omega)
            clear q0 q1 q2 q3 q4 qf0 qf1 qf2 qf3 qf4 htl9 c0 c1 c2 c3 f0 f1 f2 f3 n0 n1 n2 n3 n4 l0 l1 l2 l3 l4 hbl htl
            generalize w9.setCell ⟨tb, 4, none⟩ _ = Z at gs4 ZT ZB Z1 Z2 ZG ZR ZL ⊢
            clear gs4 L9 Gg gX X0 K0 K1 K2 KT KL KR KG K9
            have D0 : Z.drew.heap[b]? = some (stb x sc3) := ZB
            have D1 : Z.drew.heap[b + 1]? = some zs := Z1
            have D2 : Z.drew.heap[b + 2]? = some zt := Z2
            have DT : Z.drew.heap[tb]? = some (.cells #[.int .i64 17, .string T.s, .int .i64 0, nl, .slice a9 (ul + 1) cap9] 30 (0, 0)) := ZT
            have Gd : Hid (Gr (fun _ => False) W Z.drew) := ZG.trans (Gr.drew Z _)
            have Rd : Rz x Z.drew sc3 := ZR.g0 (Gr.drew Z _)
            have Ld := Lib.hid (ZL.gr (Gr.drew Z (fun _ => False)) (fun _ _ e => e))
            have hw4 := rwant_c Rd dot
            have hi4 := Lib.hid (wantV_i x.ts dot sc3 Rd.hi)
            have hgo0 := Lib.hid (want_adv x.ts dot sc3)
            generalize wantV x.ts dot sc3 = sd4 at hw4 hi4 HrR hgo0 ⊢
            have hgo : Hid (sd4.e = 0 → p.i < sd4.i) := fun e => by
              have h0 := hgo0.out e
              have h1 := hi1.out
              have h2 := hi2.out
              have h3 := Hi8.out
              have h5 := hq.out
              omega
            have hF : Hid (sd4.d = p.d ∧ p.i ≤ sd4.i ∧ sd4.i ≤ x.ts.length) := by
              have h1 := hi1.out
              have h2 := hi2.out
              have h3 := Hi8.out
              have h4 := hi4.out
              have h5 := hq.out
              exact ⟨by omega, by omega, h4.2.2.1⟩
            have hlx : Hid (sd4.e = 0 → l' = PL.1) := fun e => Hx2.out (hi1.out.2.2.2 (hi2.out.2.2.2 (hse3.out (hi4.out.2.2.2 e))))
            have TS : Gr (fun k => k = b + 1 ∨ k = b + 2) Z.drew Z.drew := Gr.refl _ _
            refine wp_region_L (L := 100) (T := fun w => Gr (fun k => k = b + 1 ∨ k = b + 2) Z.drew w) (by kernel_rfl) ?_
            generalize Z.drew = wx at TS D0 D1 D2 DT Gd Rd Ld hw4 ⊢
            obtain ⟨⟨d0, d1, d2, d3⟩, _⟩ := four_cells D0
            obtain ⟨⟨k0, k1, k2, k3, k4⟩, _⟩ := five_cells DT
            refine wpAnyN_at (i := 0) (v := (.agg #[.slice x.a x.ts.length x.c, .int .i64 (sc3.i : Int), .int .i64 (sc3.d : Int), .int .i64 sc3.e])) (some 76) rfl rfl (by kernel_rfl) (by kernel_rfl) (by kernel_rfl) (by kernel_rfl) (fun _ _ _ h => h) (Or.inl ⟨by rfl, ?_⟩) TS ?_
            · intro w hSw
              have qq0 := cell_gr d0 hSw (by show ¬ (_ ∨ _); omega)
              have qq1 := cell_gr d1 hSw (by show ¬ (_ ∨ _); omega)
              have qq2 := cell_gr d2 hSw (by show ¬ (_ ∨ _); omega)
              have qq3 := cell_gr d3 hSw (by show ¬ (_ ∨ _); omega)
              have qz := World.block_lt_of_cell? _ _ qq0
              go_simp
              try (intro h; exfalso; omega)
            try simp only [Act.put, List.setIfInBounds_toArray, List.set_cons_zero, List.set_cons_succ]
            refine wpAnyN_at (i := 2) (v := (.agg #[.int .i64 17, .string T.s, .int .i64 0, nl, .slice a9 (ul + 1) cap9])) (some 78) rfl rfl (by kernel_rfl) (by kernel_rfl) (by kernel_rfl) (by kernel_rfl) (fun _ _ _ h => h) (Or.inl ⟨by rfl, ?_⟩) TS ?_
            · intro w hSw
              have qq0 := cell_gr k0 hSw (by show ¬ (_ ∨ _); omega)
              have qq1 := cell_gr k1 hSw (by show ¬ (_ ∨ _); omega)
              have qq2 := cell_gr k2 hSw (by show ¬ (_ ∨ _); omega)
              have qq3 := cell_gr k3 hSw (by show ¬ (_ ∨ _); omega)
              have qq4 := cell_gr k4 hSw (by show ¬ (_ ∨ _); omega)
              have qz := World.block_lt_of_cell? _ _ qq0
              go_simp
              try (intro h; exfalso; omega)
            try simp only [Act.put, List.setIfInBounds_toArray, List.set_cons_zero, List.set_cons_succ]
            refine wpAnyL_one (i := 1) (by kernel_rfl) rfl (fun K hK => ?_)
            go_simp
            refine (hw4).mono ?_
            rintro e wy ⟨rfl, gy⟩
            refine hK.out _ _ (fun _ => gy.any _) ?_
            clear hK K
            try simp only [Act.put, List.setIfInBounds_toArray, List.set_cons_zero, List.set_cons_succ]
            have F1 := gy.keep D1 (fun e => e)
            have F2 := gy.keep D2 (fun e => e)
            have Ly := Ld.out.gr gy (fun _ _ e => e)
            have hRy : sd4.e = 0 → Rep (fun z => b + 3 ≤ z) wy (.mk 17 T.s 0 [] (PL.1 ++ [U])) (trv 17 T.s 0 nl (.slice a9 (ul + 1) cap9)) := fun he => by
              rw [← hlx.out he]
              exact (Ly.tree (hi4.out.2.2.2 he) 17 T.s).turn (fun z hz hl => ⟨by have h8 : tb + 1 ≤ z := hz; omega, rfl⟩)
            obtain ⟨E1, E2, E3, E4⟩ := end3 (x := x) (q := sd4) (T := (.mk 17 T.s 0 [] (PL.1 ++ [U]))) (k := 17) (s := T.s) (n := 0) (bv := nl) (lv := .slice a9 (ul + 1) cap9) (Gd.out.trans gy) hbW.out F1 F2 (hRy)
            obtain ⟨wF, hwF⟩ : ∃ wF, set5 (set4 wy (b + 1) (.slice x.a x.ts.length x.c) (.int .i64 (sd4.i : Int)) (.int .i64 (sd4.d : Int)) (.int .i64 sd4.e)) (b + 2) (.int .i64 17) (.string T.s) (.int .i64 0) (nl) (.slice a9 (ul + 1) cap9) = wF := ⟨_, rfl⟩
            rw [hwF] at E1 E2 E3 E4
            replace E1 := Lib.hid E1
            replace E2 := Lib.hid E2
            replace E3 := Lib.hid E3
            replace E4 := Lib.hid E4
            replace hwF := Lib.hid hwF
            obtain ⟨⟨y0, y1, y2, y3⟩, v0, v1, v2, v3⟩ := four_cells F1
            obtain ⟨⟨m0, m1, m2, m3, m4⟩, o0, o1, o2, o3, o4⟩ := five_cells F2
            have hlz : b + 2 < wy.heap.size := (Array.getElem?_eq_some_iff.1 F2).1
            have hlz' : b + 1 < wy.heap.size := by omega
            have TA : Gr (fun k => k = b + 1 ∨ k = b + 2) wx (set4 wy (b + 1) (.slice x.a x.ts.length x.c) (.int .i64 (sd4.i : Int)) (.int .i64 (sd4.d : Int)) (.int .i64 sd4.e)) := (gy.any _).trans' (set4_gr wy (b + 1) _ _ _ _) (fun _ _ e => .inl e)
            have TB : Gr (fun k => k = b + 1 ∨ k = b + 2) wx (set5 (set4 wy (b + 1) (.slice x.a x.ts.length x.c) (.int .i64 (sd4.i : Int)) (.int .i64 (sd4.d : Int)) (.int .i64 sd4.e)) (b + 2) (.int .i64 17) (.string T.s) (.int .i64 0) (nl) (.slice a9 (ul + 1) cap9)) := TA.trans' (set5_gr _ (b + 2) _ _ _ _ _) (fun _ _ e => .inr e)
            refine wpAnyL_one (i := 3) (by kernel_rfl) rfl (fun K hK => ?_)
            go_simp
            refine hK.out _ _ (fun _ => TA) ?_
            clear hK K
            try simp only [Act.put, List.setIfInBounds_toArray, List.set_cons_zero, List.set_cons_succ]
            refine wpAnyL_one (i := 4) (by kernel_rfl) rfl (fun K hK => ?_)
            go_simp
            refine hK.out _ _ (fun _ => TB) ?_
            clear hK K
            try simp only [Act.put, List.setIfInBounds_toArray, List.set_cons_zero, List.set_cons_succ]
            refine wpAnyL_done (by kernel_rfl) ?_ _
            refine NoPanic.normal ?_
            clear TS TA TB
            go_wp2_with fail
            rw [HrR.out]
            rw [show ((((((((wy.setCell ⟨b + 1, 0, none⟩ (.slice x.a x.ts.length x.c)).setCell ⟨b + 1, 1, none⟩ (.int .i64 (sd4.i : Int))).setCell ⟨b + 1, 2, none⟩ (.int .i64 (sd4.d : Int))).setCell ⟨b + 1, 3, none⟩ (.int .i64 sd4.e)).setCell ⟨b + 1 + 1, 0, none⟩ (.int .i64 17)).setCell ⟨b + 1 + 1, 1, none⟩ (.string T.s)).setCell ⟨b + 1 + 1, 2, none⟩ (.int .i64 0)).setCell ⟨b + 1 + 1, 3, none⟩ (nl)).setCell ⟨b + 1 + 1, 4, none⟩ (.slice a9 (ul + 1) cap9) = wF from hwF.out]
            clear y0 y1 y2 y3 v0 v1 v2 v3 m0 m1 m2 m3 m4 o0 o1 o2 o3 o4
            have E1' := E1.out
            have E2' : wF.heap[b + 1 + 1]? = some (.cells #[.int .i64 17, .string T.s, .int .i64 0, nl, .slice a9 (ul + 1) cap9] 30 (0, 0)) := E2.out
            obtain ⟨⟨t0, t1, t2, t3⟩, _⟩ := four_cells E1'
            obtain ⟨⟨s0, s1, s2, s3, s4⟩, _⟩ := five_cells E2'
            refine bodyPost_ret (v := .tuple #[stv x sd4, trv (17) (T.s) (0) (nl) (.slice a9 (ul + 1) cap9)]) (by simp [results, Tryz.results13, go_sem, t0, t1, t2, t3, s0, s1, s2, s3, s4]) rfl ⟨⟨17, T.s, 0, none, 0, 0, a9, ul + 1, cap9, rfl, E3.out, hF.out, E4.out⟩, hgo.out⟩
          case pos =>
            have qk : ((pkT x.ts qn).k != 3) = false := by simp [hk]
            have qk' : ((pkT x.ts qn).k == 3) = true := by simp [hk]
            obtain ⟨fu, hfu, hPL'⟩ := hk3.out hk
            have Hq2 := Lib.hid hPL'
            have hfu2 := Lib.hid hfu
            obtain ⟨hqe0, hql⟩ := kind_lt (show (pkT x.ts qn).k ≠ 0 by rw [hk]; decide)
            have hqe2 := Lib.hid hqe0
            have hql2 := Lib.hid hql
            rw [hk] at hkd qk qk'
            clear hPL' hfu hk3 hkN hqe0 hql hk
            refine hkd.mono ?_
            rintro e wk ⟨rfl, gk⟩
            clear hkd
            replace K0 := Lib.hid (gk.keep K0.out (fun e => e))
            replace K1 := Lib.hid (gk.keep K1.out (fun e => e))
            replace K2 := Lib.hid (gk.keep K2.out (fun e => e))
            replace KT := Lib.hid (gk.keep KT.out (fun e => e))
            replace KL := Lib.hid (KL.out.gr gk (fun _ _ e => e))
            replace KR := Lib.hid (KR.out.g0 gk)
            replace KG := Lib.hid (KG.out.trans gk)
            obtain ⟨ht, hrow, g, o, hxa, hgN, hc⟩ := KR.out.at hqe2.out hql2.out
            replace hxa := Lib.hid hxa
            obtain ⟨TT, hTT⟩ : ∃ TT, pkT x.ts qn = TT := ⟨_, rfl⟩
            rw [hTT] at hc Hq2
            clear hTT ht hrow
            have hbt9 := hbt.out
            have tk1 : wk.drew.cell? ⟨g, o + qn.i * 5 + 1, none⟩ = some (.string TT.s) := hc 1 _ rfl
            have D0 : wk.drew.heap[b]? = some (stb x qn) := K0.out
            have D1 : wk.drew.heap[b + 1]? = some zs := K1.out
            have D2 : wk.drew.heap[b + 2]? = some zt := K2.out
            have DT : wk.drew.heap[tb]? = some (.cells #[.int .i64 17, .string T.s, .int .i64 0, nl, .slice ua ul uc] 30 (0, 0)) := KT.out
            have DL := KL.out.gr (Gr.drew wk (fun _ => False)) (fun _ _ e => e)
            have DR := Lib.hid (KR.out.g0 (Gr.drew wk _))
            have DG := Lib.hid (KG.out.trans (Gr.drew wk _))
            obtain ⟨hLb, m, xs, hrowd, hm, hown, hreps⟩ := DL
            obtain ⟨_, _, hsv⟩ := ownsRow_sv hrowd
            have hul : ul = m := by cases hsv; rfl
            subst hul
            have hOw := Lib.hid hown
            have HrX := Lib.hid hreps
            have HrowD := Lib.hid hrowd
            have hNb9 := hNb.out
            clear hsv hown hreps hc hrowd
            have htl9 : tb < wk.drew.heap.size := (Array.getElem?_eq_some_iff.1 DT).1
            have hqI : (qn.i : Int) ≤ 100000 := by have := hqq.out; have := hRm.out; omega
            have hqL := hql2.out
            clear K0 K1 K2 KT KL KR KG
            go_wp2_with fail
            have TS : Gr (fun k => (Value.slice ua ul uc).ownBlock = some k) wk.drew wk.drew := Gr.refl _ _
            refine wp_region_L (L := 13) (T := fun w => Gr (fun k => (Value.slice ua ul uc).ownBlock = some k) wk.drew w) (by kernel_rfl) ?_
            generalize wk.drew = wd at TS D0 D1 D2 DT DR DG tk1 hLb HrowD HrX htl9 ⊢
            have hob : ∀ k, k < tb + 1 → ¬ (Value.slice ua ul uc).ownBlock = some k := fun k hk e => by have h8 : tb + 1 ≤ k := hOw.out k e; omega
            obtain ⟨⟨d0', d1, d2, d3⟩, _⟩ := four_cells D0
            have d0 : wd.cell? ⟨b, 0, none⟩ = some (.slice (some ⟨g, o, none⟩) x.ts.length x.c) := by rw [← hxa.out]; exact d0'
            clear d0'
            obtain ⟨⟨k0, k1, k2, k3, k4⟩, _⟩ := five_cells DT
            refine wpAnyL_at (i := 0) (v := (ptr tb 4)) (some 44) rfl rfl (by kernel_rfl) (by kernel_rfl) (by kernel_rfl) (by kernel_rfl) (by decide) (fun _ _ _ h => h) (Or.inl ⟨by rfl, ?_⟩) TS ?_
            · intro w hSw
              go_simp
              try (intro h; exfalso; omega)
            try simp only [Act.put, List.setIfInBounds_toArray, List.set_cons_zero, List.set_cons_succ]
            refine wpAnyL_at (i := 1) (v := (.slice ua ul uc)) (some 45) rfl rfl (by kernel_rfl) (by kernel_rfl) (by kernel_rfl) (by kernel_rfl) (by decide) (fun _ _ _ h => h) (Or.inl ⟨by rfl, ?_⟩) TS ?_
            · intro w hSw
              have qq0 := cell_gr k4 hSw (hob tb (by omega))
              have qz := World.block_lt_of_cell? _ _ qq0
              go_simp
              try (intro h; exfalso; omega)
            try simp only [Act.put, List.setIfInBounds_toArray, List.set_cons_zero, List.set_cons_succ]
            refine wpAnyL_at (i := 2) (v := (ptr b 0)) (some 46) rfl rfl (by kernel_rfl) (by kernel_rfl) (by kernel_rfl) (by kernel_rfl) (by decide) (fun _ _ _ h => h) (Or.inl ⟨by rfl, ?_⟩) TS ?_
            · intro w hSw
              go_simp
              try (intro h; exfalso; omega)
            try simp only [Act.put, List.setIfInBounds_toArray, List.set_cons_zero, List.set_cons_succ]
            refine wpAnyL_at (i := 3) (v := (.slice (some ⟨g, o, none⟩) x.ts.length x.c)) (some 47) rfl rfl (by kernel_rfl) (by kernel_rfl) (by kernel_rfl) (by kernel_rfl) (by decide) (fun _ _ _ h => h) (Or.inl ⟨by rfl, ?_⟩) TS ?_
            · intro w hSw
              have qq0 := cell_gr d0 hSw (hob b (by omega))
              have qz := World.block_lt_of_cell? _ _ qq0
              go_simp
              try (intro h; exfalso; omega)
            try simp only [Act.put, List.setIfInBounds_toArray, List.set_cons_zero, List.set_cons_succ]
            refine wpAnyL_at (i := 4) (v := (ptr b 1)) (some 48) rfl rfl (by kernel_rfl) (by kernel_rfl) (by kernel_rfl) (by kernel_rfl) (by decide) (fun _ _ _ h => h) (Or.inl ⟨by rfl, ?_⟩) TS ?_
            · intro w hSw
              go_simp
              try (intro h; exfalso; omega)
            try simp only [Act.put, List.setIfInBounds_toArray, List.set_cons_zero, List.set_cons_succ]
            refine wpAnyL_at (i := 5) (v := (.int .i64 (qn.i : Int))) (some 49) rfl rfl (by kernel_rfl) (by kernel_rfl) (by kernel_rfl) (by kernel_rfl) (by decide) (fun _ _ _ h => h) (Or.inl ⟨by rfl, ?_⟩) TS ?_
            · intro w hSw
              have qq0 := cell_gr d1 hSw (hob b (by omega))
              have qz := World.block_lt_of_cell? _ _ qq0
              go_simp
              try (intro h; exfalso; omega)
            try simp only [Act.put, List.setIfInBounds_toArray, List.set_cons_zero, List.set_cons_succ]
            refine wpAnyL_at (i := 6) (v := (ptr g (o + qn.i * 5))) (some 50) rfl rfl (by kernel_rfl) (by kernel_rfl) (by kernel_rfl) (by kernel_rfl) (by decide) (fun _ _ _ h => h) (Or.inl ⟨by rfl, ?_⟩) TS ?_
            · intro w hSw
              go_simp
              try (intro h; exfalso; omega)
            try simp only [Act.put, List.setIfInBounds_toArray, List.set_cons_zero, List.set_cons_succ]
            refine wpAnyL_at (i := 7) (v := (ptr g (o + qn.i * 5 + 1))) (some 51) rfl rfl (by kernel_rfl) (by kernel_rfl) (by kernel_rfl) (by kernel_rfl) (by decide) (fun _ _ _ h => h) (Or.inl ⟨by rfl, ?_⟩) TS ?_
            · intro w hSw
              go_simp
              try (intro h; exfalso; omega)
            try simp only [Act.put, List.setIfInBounds_toArray, List.set_cons_zero, List.set_cons_succ]
            refine wpAnyL_at (i := 8) (v := (.string TT.s)) (some 52) rfl rfl (by kernel_rfl) (by kernel_rfl) (by kernel_rfl) (by kernel_rfl) (by decide) (fun _ _ _ h => h) (Or.inl ⟨by rfl, ?_⟩) TS ?_
            · intro w hSw
              have qq0 := cell_gr tk1 hSw (hob g (by omega))
              have qz := World.block_lt_of_cell? _ _ qq0
              go_simp
              try (intro h; exfalso; omega)
            try simp only [Act.put, List.setIfInBounds_toArray, List.set_cons_zero, List.set_cons_succ]
            refine wpAnyL_at (i := 9) (v := (.agg #[.int .i64 3, .string TT.s, .int .i64 0, nl, nl])) (some 53) rfl rfl (by kernel_rfl) (by kernel_rfl) (by kernel_rfl) (by kernel_rfl) (by decide) (fun _ _ _ h => h) (Or.inl ⟨by rfl, ?_⟩) TS ?_
            · intro w hSw
              go_simp
              try (intro h; exfalso; omega)
            try simp only [Act.put, List.setIfInBounds_toArray, List.set_cons_zero, List.set_cons_succ]
            have TS8 : Gr (fun k => (Value.slice ua ul uc).ownBlock = some k) wd (wd.alloc (.cells #[.int .i64 3, .string TT.s, .int .i64 0, nl, nl] 30)) := Gr.alloc _ _ _
            refine wpAnyL_one (i := 10) (by kernel_rfl) rfl (fun K hK => ?_)
            go_simp
            refine hK.out _ _ (fun _ => TS8) ?_
            clear hK K
            try simp only [Act.put, List.setIfInBounds_toArray, List.set_cons_zero, List.set_cons_succ]
            have hlit := World.ownsRow_lit (base := tb + 1) (e := 30) (size := 5) wd #[.int .i64 3, .string TT.s, .int .i64 0, nl, nl] 1 (by omega) (by unfold maxLen; omega) rfl
            have g8 : Gr (fun _ => False) wd (wd.alloc (.cells #[.int .i64 3, .string TT.s, .int .i64 0, nl, nl] 30)) := Gr.alloc _ _ _
            obtain ⟨nb, hnb⟩ : ∃ nb, wd.heap.size = nb := ⟨_, rfl⟩
            have hr8 := ownsRow_of_block HrowD.out (fun k h1 h2 => g8.block k (ownsRow_lt HrowD.out k h2).2 (fun e => e))
            have hLb8 : tb + 1 ≤ (wd.alloc (.cells #[.int .i64 3, .string TT.s, .int .i64 0, nl, nl] 30)).heap.size := by have := g8.size; omega
            rw [hnb] at hlit ⊢
            generalize wd.alloc _ = w8 at TS8 hlit g8 hr8 hLb8 ⊢
            refine wpAnyL_one (i := 11) (by kernel_rfl) rfl (fun K hK => ?_)
            refine step_own rfl _ _ rfl (tb + 1) (tb + 1) (.slice ua ul uc) (.slice (some ⟨nb, 0, none⟩) 1 1) ul 1 xs [.int .i64 3, .string TT.s, .int .i64 0, nl, nl] rfl rfl hr8 hlit (by intro u hu; simp only [List.mem_cons, List.not_mem_nil, or_false] at hu; rcases hu with rfl | rfl | rfl | rfl | rfl <;> rfl) (by have := hmx.out; have := hqq.out; have := hRm.out; omega) hLb8 ?_
            intro v9 w9 hrow9 hgr9 hloc9
            obtain ⟨a9, cap9, rfl⟩ := ownsRow_sv hrow9
            have Gg : Gr (fun k => (Value.slice ua ul uc).ownBlock = some k) w8 w9 := Gr.of_grown hgr9 (fun z e => e)
            have TS9 : Gr (fun k => (Value.slice ua ul uc).ownBlock = some k) wd w9 := (g8.any _).trans Gg
            refine hK.out _ _ (fun _ => TS9) ?_
            clear hK K
            try simp only [Act.put, List.setIfInBounds_toArray, List.set_cons_zero, List.set_cons_succ]
            have L9 : LrE (tb + 1) (fun z => tb + 1 ≤ z) w9 (l' ++ [.mk 3 TT.s 0 [] []]) (.slice a9 (ul + 1) cap9) qn.next := by
              refine LrE.grown (q := qn) hLb8 hr8 ⟨hmx.out, hm.2⟩ (by show qn.i ≤ qn.i + 1; omega) hOw.out (fun z hz => by show tb + 1 ≤ z; omega) (fun e => ?_) (fun e => e) (fun e => ⟨nl, nl, [], rfl, .inl ⟨rfl, _, _, rfl⟩, .inl ⟨rfl, _, _, rfl⟩, rfl⟩) hgr9 hloc9 hrow9 ⟨rfl, rfl⟩
              obtain ⟨e1, vs, e2, e3⟩ := HrX.out e
              exact ⟨e1, vs, e2, e3.turn (fun z hz hl => ⟨hz, g8.block z hl (fun e => e)⟩)⟩
            have n9 : w9.heap[tb]? = some (.cells #[.int .i64 17, .string T.s, .int .i64 0, nl, .slice ua ul uc] 30 (0, 0)) := TS9.keep DT (hob tb (by omega))
            obtain ⟨⟨q0, q1, q2, q3, q4⟩, qf0, qf1, qf2, qf3, qf4⟩ := five_cells n9
            have ht9 : tb < w9.heap.size := (Array.getElem?_eq_some_iff.1 n9).1
            have gs4 : Gr (fun k => k = tb) w9 (w9.setCell ⟨tb, 4, none⟩ (.slice a9 (ul + 1) cap9)) := Gr.set _ _ _ rfl
            have ZT : (w9.setCell ⟨tb, 4, none⟩ (.slice a9 (ul + 1) cap9)).heap[tb]? = some (.cells #[.int .i64 17, .string T.s, .int .i64 0, nl, .slice a9 (ul + 1) cap9] 30 (0, 0)) := heap_setCell_same w9 tb 4 _ 30 _ n9
            have Z0 := gs4.keep (TS9.keep D0 (hob b (by omega))) (by omega)
            have Z1 := Lib.hid (gs4.keep (TS9.keep D1 (hob _ (by omega))) (by omega))
            have Z2 := Lib.hid (gs4.keep (TS9.keep D2 (hob _ (by omega))) (by omega))
            have ZG : Hid (Gr (fun _ => False) W (w9.setCell ⟨tb, 4, none⟩ (.slice a9 (ul + 1) cap9))) := (DG.out.trans' TS9 (fun k hk e => by have h8 : tb + 1 ≤ k := hOw.out k e; have := hbW.out; omega)).trans' gs4 (fun k hk e => by have := hbW.out; omega)
            have ZR := Lib.hid ((DR.out.gr TS9 (fun k hk e => by have h8 : tb + 1 ≤ k := hOw.out k e; omega)).gr gs4 (fun k hk e => by omega))
            have ZL := Lib.hid (L9.gr gs4 (fun k hk e => by have h8 : tb + 1 ≤ k := hk; omega))
            replace ZT := Lib.hid ZT
            refine wpAnyL_at (i := 12) (v := (ptr tb 4)) (some 56) rfl rfl (by kernel_rfl) (by kernel_rfl) (by kernel_rfl) (by kernel_rfl) (by decide) (fun _ _ _ h => h) (Or.inl ⟨by rfl, ?_⟩) TS9 ?_
            · intro w hSw
              go_simp
              try (intro h; exfalso; omega)
            try simp only [Act.put, List.setIfInBounds_toArray, List.set_cons_zero, List.set_cons_succ]
            refine wpAnyL_one (i := 13) (by kernel_rfl) rfl (fun K hK => ?_)
            go_simp
            refine hK.out _ _ (fun h => absurd rfl h) ?_
            clear hK K
            try simp only [Act.put, List.setIfInBounds_toArray, List.set_cons_zero, List.set_cons_succ]
            refine wpAnyL_done (by kernel_rfl) ?_ _
            refine NoPanic.normal ?_
            clear q0 q1 q2 q3 q4 qf0 qf1 qf2 qf3 qf4 ht9 k0 k1 k2 k3 k4 d0 d1 d2 d3 TS TS8 L9 n9
            generalize w9.setCell ⟨tb, 4, none⟩ _ = Z at gs4 ZT Z0 Z1 Z2 ZG ZR ZL ⊢
            obtain ⟨⟨c0, c1, c2, c3⟩, f0, f1, f2, f3⟩ := four_cells Z0
            have hbz : b < Z.heap.size := (Array.getElem?_eq_some_iff.1 Z0).1
            have gy : Gr (fun k => k = b) Z (Z.setCell ⟨b, 1, none⟩ (.int .i64 ((qn.i : Int) + 1))) := Gr.set _ _ _ rfl
            have Y0 : Hid ((Z.setCell ⟨b, 1, none⟩ (.int .i64 ((qn.i : Int) + 1))).heap[b]? = some (stb x qn.next)) := heap_setCell_same Z b 1 _ 45 _ Z0
            have Y1 := Lib.hid (gy.keep Z1.out (by omega))
            have Y2 := Lib.hid (gy.keep Z2.out (by omega))
            have YT := Lib.hid (gy.keep ZT.out (by omega))
            have YG := Lib.hid (ZG.out.trans' gy (fun k hk e => by have := hbW.out; omega))
            have YR : Hid (Rz x (Z.setCell ⟨b, 1, none⟩ (.int .i64 ((qn.i : Int) + 1))) qn.next) := (ZR.out.gr gy (fun k hk e => by omega)).to (by show qn.i + 1 ≤ _; omega) ZR.out.hd
            have YL := Lib.hid (ZL.out.gr gy (fun k hk e => by have h8 : tb + 1 ≤ k := hk; omega))
            clear gs4 gy Z0 Z1 Z2 ZT ZG ZR ZL
            go_wp2_with fail
            refine ⟨⟨false, _, qn.next, fu, a9, ul + 1, cap9, rfl, (by have := hmx.out; show _ ≤ qn.i + 1; omega), (by have := hfu2.out; exact this), Hq2, YL.out, YR.out, Y0.out, Y1.out, Y2.out, YT.out, ?_, YG⟩, ?_⟩
            · have h1 := hqq.out
              exact ⟨h1.1, by show p.i ≤ qn.i + 1; omega, hqL⟩
            · have ea : atP (Z.setCell ⟨b, 1, none⟩ (.int .i64 ((qn.i : Int) + 1))) b = qn.i + 1 := by
                obtain ⟨⟨_, e1, _, _⟩, _⟩ := four_cells Y0.out
                simp [atP, e1, Ps.next]
              rw [ea, Hat.out]
              have h1 := hqq.out
              omega
theorem rfun_c (d : Nat) (ex : Rule) (hex : ROk x 39 d ex) (hse : Stuck ex) (h : Rz x W p) (hd : p.d = d) : Calls Tryz.prog 13 #[stv x p] W fun e w' => EndF x W p e w' (funV x.ts ex p) := by
  by_cases hk : (pkT x.ts p).k = 2
  · exact rfun_atom d ex hex hse h hd hk
  · exact rfun_bad d ex hse h hd hk
end Go.Proofs.YtggkjkkbkpnkiaaGreatDoor
