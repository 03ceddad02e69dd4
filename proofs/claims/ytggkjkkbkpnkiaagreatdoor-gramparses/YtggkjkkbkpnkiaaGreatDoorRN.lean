/-
  The reference's inner: receive.
-/
import Derived.Test.YtggkjkkbkpnkiaaGreatDoorRL
set_option linter.unusedVariables false
set_option linter.unusedSimpArgs false
namespace Go.Proofs.YtggkjkkbkpnkiaaGreatDoor
open Go.RowKit Go.Maps
variable {x : Kx} {W W' : World} {p p' : Ps}
set_option maxRecDepth 100000 in
set_option maxHeartbeats 1200000 in
theorem rinner4 (d : Nat) (ex un : Rule) (hex : ROk x 39 d ex) (hun : ROk x 74 d un) (hse : Stuck ex) (hsu : Stuck un) (h : Rz x W p) (hd : p.d = d) : Calls Tryz.prog 92 #[stv x p, .int .i64 4] W fun e w' => EndX x W p e w' (recvV x.ts ex un p) := by
  obtain ⟨g0, b0, b1, b2, hz0⟩ := open3 (x := x) W p
  obtain ⟨b, hb⟩ : ∃ b, W.heap.size = b := ⟨_, rfl⟩
  have Hd := Lib.hid hd
  have hbW := Lib.hid hb
  have hNb : Hid (x.N ≤ b) := by have := h.hN; show _ ≤ _; omega
  have R0 := Lib.hid (h.g0 g0)
  obtain ⟨r, hr⟩ : ∃ r, r = recvV x.ts ex un p := ⟨_, rfl⟩
  rw [← hr]
  have Hr0 : Hid (r = (.mk 13 e0 0 [] (raftV x.ts ex (rclV x.ts ex un p)).1, wantV x.ts wEnd (raftV x.ts ex (rclV x.ts ex un p)).2)) := hr
  obtain ⟨i0, hi0, hz0', hz1, hz2⟩ := info_parts info25
  have hRm := Lib.hid h.hm
  have his0 := ris_c (h.g0 g0) wAft
  have hi0' := Lib.hid h.hi
  clear hd h hr
  cases hs : isV x.ts p wAft with
  | true =>
    have Hr : Hid (r = (.mk 13 e0 0 [] ([] ++ [.mk 14 e0 0 [] [(ex p.next).1, (bodyV x.ts ex (wantV x.ts arw (ex p.next).2)).1]]), wantV x.ts wEnd (bodyV x.ts ex (wantV x.ts arw (ex p.next).2)).2)) := by
      show r = _
      rw [Hr0.out, rclV, if_pos hs]
      unfold raftV
      rw [if_pos hs]
      rfl
    rw [hs] at his0
    clear Hr0
    go_enter Tryz.func92, Tryz.ntmps92
    go_wp2_with fail
    generalize ((W.alloc _).alloc _).alloc _ = W1 at g0 b0 b1 b2 hz0 R0 his0 ⊢
    rw [hb] at b0 b1 b2 hz0
    refine his0.mono ?_
    rintro e w1 ⟨rfl, g1⟩
    have K0 := Lib.hid (g1.keep b0 (fun e => e))
    have K1 := Lib.hid (g1.keep b1 (fun e => e))
    have K2 := Lib.hid (g1.keep b2 (fun e => e))
    have KR := Lib.hid (R0.out.g0 g1)
    have KG := Lib.hid (g0.trans g1)
    have KL : Hid (LrE (b + 3) (fun z => b + 3 ≤ z) w1 [] nl p) := LrE.nil (by have := g1.size; omega)
    have hcq : Hid (p.d = p.d ∧ p.i ≤ p.i ∧ p.i ≤ x.ts.length) := ⟨rfl, Nat.le_refl _, hi0'.out⟩
    clear b0 b1 b2 R0 g0 g1 his0
    have hlt := Lib.hid (isV_lt' hs)
    have his := ris_c KR.out wAft
    rw [hs] at his
    have hcI : (p.i : Int) ≤ 100000 := by have := hcq.out; have := hRm.out; omega
    clear hs
    obtain ⟨⟨c0, c1, c2, c3⟩, f0, f1', f2, f3⟩ := four_cells K0.out
    have hbl : b + 1 < w1.heap.size := (Array.getElem?_eq_some_iff.1 K1.out).1
    have hbl' : b < w1.heap.size := by omega
    go_wp2_with fail
    refine his.mono ?_
    rintro e w2 ⟨rfl, g2⟩
    have C0 := g2.keep K0.out (fun e => e)
    have C1 := g2.keep K1.out (fun e => e)
    have C2 := g2.keep K2.out (fun e => e)
    have L2 := Lib.hid (KL.out.gr g2 (fun _ _ e => e))
    have R2 := KR.out.g0 g2
    have G2' := Lib.hid (KG.out.trans g2)
    clear c0 c1 c2 c3 f0 f1' f2 f3 his KL KG KR hbl hbl'
    obtain ⟨⟨c0, c1, c2, c3⟩, f0, f1', f2, f3⟩ := four_cells C0
    have hl2 : b + 1 < w2.heap.size := (Array.getElem?_eq_some_iff.1 C1).1
    have hl2' : b < w2.heap.size := by omega
    have gs : Gr (fun k => k = b) w2 (w2.setCell ⟨b, 1, none⟩ (.int .i64 ((p.i : Int) + 1))) := Gr.set _ _ _ rfl
    have S0 : Hid ((w2.setCell ⟨b, 1, none⟩ (.int .i64 ((p.i : Int) + 1))).heap[b]? = some (stb x p.next)) := heap_setCell_same w2 b 1 _ 45 _ C0
    have S1 := Lib.hid (gs.keep C1 (by omega))
    have S2 := Lib.hid (gs.keep C2 (by omega))
    have R3 : Hid (Rz x (w2.setCell ⟨b, 1, none⟩ (.int .i64 ((p.i : Int) + 1))) p.next) := (R2.gr gs (fun k hk e => by have := hNb.out; omega)).to (by show p.i + 1 ≤ _; have := hlt.out; omega) R2.hd
    have L3 : Hid (LrE (b + 3) (fun z => b + 3 ≤ z) (w2.setCell ⟨b, 1, none⟩ (.int .i64 ((p.i : Int) + 1))) [] (.slice none 0 0) p) := L2.out.gr gs (fun k hk e => by have h8 : b + 3 ≤ k := hk; omega)
    have G3 : Hid (Gr (fun _ => False) W (w2.setCell ⟨b, 1, none⟩ (.int .i64 ((p.i : Int) + 1)))) := G2'.out.trans' gs (fun k hk e => by have := hbW.out; omega)
    have hcall := Lib.hid (hex _ p.next R3.out (by have h1 := hcq.out.1; have h2 := Hd.out; show p.d = d; omega))
    clear K0 K1 K2 C1 C2 gs R2 L2 G2' C0 g2
    go_wp2_with fail
    generalize w2.setCell ⟨b, 1, none⟩ _ = w3 at S0 S1 S2 R3 L3 G3 hcall ⊢
    have K0 := S0
    have K1 := S1
    have K2 := S2
    have KR := R3
    have KL := L3
    have KG := G3
    clear S0 S1 S2 R3 L3 G3
    refine hcall.out.mono ?_
    rintro e w4 ⟨pk, ps, pn, a1, n1, c1', a2, n2, c2', rfl, rep4, hi4, g4⟩
    generalize (ex p.next).2 = q1 at Hr rep4 hi4 ⊢
    generalize (ex p.next).1 = T at Hr rep4 ⊢
    have D0 := Lib.hid (g4.keep K0.out (fun e => e))
    have D1 := Lib.hid (g4.keep K1.out (fun e => e))
    have D2 := Lib.hid (g4.keep K2.out (fun e => e))
    have L4 : Hid (LrE (b + 3) (fun z => b + 3 ≤ z ∧ z < w4.heap.size) w4 [] (.slice none 0 0) p) := (KL.out.gr g4 (fun _ _ e => e)).imp (P' := fun z => b + 3 ≤ z ∧ z < w4.heap.size) (fun k hk h => ⟨h, hk⟩)
    have hown : Hid (∀ k, (Value.slice none 0 0).ownBlock = some k → k < w3.heap.size) := by
      obtain ⟨_, _, _, hr3, _⟩ := KL.out
      exact fun k hk => (ownsRow_lt hr3 k hk).2
    have G4 := Lib.hid (KG.out.trans g4)
    have Hi4 : Hid (q1.d = p.d ∧ p.i + 1 ≤ q1.i ∧ q1.i ≤ x.ts.length) := hi4
    have hsq : Hid (b + 3 ≤ w3.heap.size) := by have := (Array.getElem?_eq_some_iff.1 K2.out).1; show _ ≤ _; omega
    have hs4 : Hid (w3.heap.size ≤ w4.heap.size) := g4.size
    have R5 := Lib.hid ((KR.out.g0 g4).to (p' := q1) Hi4.out.2.2 (by have := KR.out.hd; have := Hi4.out.1; have h9 : p.next.d = p.d := rfl; omega))
    obtain ⟨gX, XY, XT, hsX⟩ := two_new (x := x) (w2 := w4) (q := q1) (tk := pk) (tt := ps) (tn := pn) (u1 := .slice a1 n1 c1') (u2 := .slice a2 n2 c2') rfl
    have RX := (R5.out.g0 gX)
    have hwi := Lib.hid (wantV_i x.ts arw q1 Hi4.out.2.2)
    have hadv := Lib.hid (want_adv x.ts arw q1)
    have hw := Lib.hid (rwant_c RX arw)
    have Hrep4 : Hid (q1.e = 0 → Rep (fun z => w3.heap.size ≤ z) w4 T (trv pk ps pn (.slice a1 n1 c1') (.slice a2 n2 c2'))) := rep4
    replace RX := Lib.hid RX
    generalize wantV x.ts arw q1 = q2 at Hr hw hwi hadv ⊢
    clear K0 K1 K2 KL KG KR rep4 hi4 g4 R5 c0 c1 c2 c3 f0 f1' f2 f3 hcall
    go_wp2_with fail
    generalize (w4.alloc (stb x q1)).alloc _ = w5 at gX XY XT hsX RX hw ⊢
    obtain ⟨yb, hyb⟩ : ∃ yb, w4.heap.size = yb := ⟨_, rfl⟩
    have hyb0 : Hid (b + 3 ≤ yb) := by have := hsq.out; have := hs4.out; show _ ≤ _; omega
    rw [hyb] at XY XT L4 ⊢
    refine hw.out.mono ?_
    rintro e w6 ⟨rfl, g6⟩
    have F0 := Lib.hid (g6.keep (gX.keep D0.out (fun e => e)) (fun e => e))
    have F1 := Lib.hid (g6.keep (gX.keep D1.out (fun e => e)) (fun e => e))
    have F2 := Lib.hid (g6.keep (gX.keep D2.out (fun e => e)) (fun e => e))
    have FY := Lib.hid (g6.keep XY (fun e => e))
    have FP := Lib.hid (g6.keep XT (fun e => e))
    have L6 := Lib.hid ((L4.out.gr gX (fun _ _ e => e)).gr g6 (fun _ _ e => e))
    have G6 := Lib.hid ((G4.out.trans gX).trans g6)
    have R6 := Lib.hid ((RX.out.g0 g6).to (p' := q2) hwi.out.2.2.1 (by have := hwi.out.1; have := RX.out.hd; omega))
    have rep6 : Hid (q2.e = 0 → Rep (fun z => w3.heap.size ≤ z ∧ z < yb) w6 T (trv pk ps pn (.slice a1 n1 c1') (.slice a2 n2 c2'))) := fun e => (Hrep4.out (hwi.out.2.2.2 e)).turn (fun z hz hl => ⟨⟨hz, by omega⟩, (g6.block z (Nat.lt_of_lt_of_le hl gX.size) (fun e => e)).trans (gX.block z hl (fun e => e))⟩)
    obtain ⟨⟨z0, z1, z2, z3⟩, w0', w1', w2', w3'⟩ := four_cells FY.out
    have hly : yb < w6.heap.size := (Array.getElem?_eq_some_iff.1 FY.out).1
    have hlp : yb + 1 < w6.heap.size := (Array.getElem?_eq_some_iff.1 FP.out).1
    have hlb : b < w6.heap.size := by have := hyb0.out; omega
    have hlb1 : b + 1 < w6.heap.size := by have := hyb0.out; omega
    have hn1 : yb ≠ b := by have := hyb0.out; omega
    have hn2 : yb + 1 ≠ b := by have := hyb0.out; omega
    have hn3 : b ≠ yb := by have := hyb0.out; omega
    have hn4 : b ≠ yb + 1 := by have := hyb0.out; omega
    have hn5 : yb ≠ b + 1 := by have := hyb0.out; omega
    have hn6 : b + 1 ≠ yb := by have := hyb0.out; omega
    have hn7 : yb ≠ b + 1 + 1 := by have := hyb0.out; omega
    have hn8 : b + 1 + 1 ≠ yb := by have := hyb0.out; omega
    clear D0 D1 D2 L4 G4 XY XT hw RX gX g6 Hrep4 hsX
    by_cases h2e : q2.e = 0
    case neg =>
      have qn : (q2.e != 0) = true := by rw [bne_iff_ne]; exact h2e
      have qn' : (q2.e == 0) = false := by simpa using h2e
      have Hr2 : Hid (r.2 = q2) := by
        show r.2 = q2
        rw [Hr.out]
        have e1 : (bodyV x.ts ex q2).2 = q2 := sevV_err hse h2e cma
        show wantV x.ts wEnd (bodyV x.ts ex q2).2 = q2
        rw [e1, wantV_err h2e]
      have gs1 := set4_gr w6 yb (.slice x.a x.ts.length x.c) (.int .i64 (q2.i : Int)) (.int .i64 (q2.d : Int)) (.int .i64 q2.e)
      have S1 := gs1.keep F1.out (by omega)
      have S2 := gs1.keep F2.out (by have := hyb0.out; omega)
      have GS := G6.out.trans' gs1 (fun k hk e => by have := hbW.out; have := hyb0.out; omega)
      obtain ⟨w7, hw7⟩ : ∃ w7, set4 w6 yb (.slice x.a x.ts.length x.c) (.int .i64 (q2.i : Int)) (.int .i64 (q2.d : Int)) (.int .i64 q2.e) = w7 := ⟨_, rfl⟩
      rw [hw7] at gs1 S1 S2 GS
      have Hh2 := Lib.hid h2e
      obtain ⟨rt, rq⟩ := r
      have hrq : rq = q2 := Hr2.out
      subst hrq
      have hF : Hid (rq.d = p.d ∧ p.i ≤ rq.i ∧ rq.i ≤ x.ts.length) := by
        have h9 := hwi.out
        have h10 := Hi4.out
        have h11 := hcq.out
        exact ⟨by omega, by omega, h9.2.2.1⟩
      obtain ⟨E1, E2, E3, E4⟩ := end3 (x := x) (q := rq) (T := rt) (k := 0) (s := e0) (n := 0) (bv := nl) (lv := nl) (GS) hbW.out S1 S2 (fun he => absurd he h2e)
      obtain ⟨wF, hwF⟩ : ∃ wF, set5 (set4 w7 (b + 1) (.slice x.a x.ts.length x.c) (.int .i64 (rq.i : Int)) (.int .i64 (rq.d : Int)) (.int .i64 rq.e)) (b + 2) (.int .i64 0) (.string e0) (.int .i64 0) (nl) (nl) = wF := ⟨_, rfl⟩
      rw [hwF] at E1 E2 E3 E4
      replace E1 := Lib.hid E1
      replace E2 := Lib.hid E2
      replace E3 := Lib.hid E3
      replace E4 := Lib.hid E4
      replace hwF := Lib.hid hwF
      obtain ⟨⟨y0, y1, y2, y3⟩, v0, v1, v2, v3⟩ := four_cells S1
      obtain ⟨⟨m0, m1, m2, m3, m4⟩, o0, o1, o2, o3, o4⟩ := five_cells S2
      have hlz : b + 2 < w7.heap.size := (Array.getElem?_eq_some_iff.1 S2).1
      have hlz' : b + 1 < w7.heap.size := by omega
      clear y0 y1 y2 y3 v0 v1 v2 v3 m0 m1 m2 m3 m4 o0 o1 o2 o3 o4 hlz hlz'
      obtain ⟨⟨y0, y1, y2, y3⟩, v0, v1, v2, v3⟩ := four_cells F1.out
      obtain ⟨⟨m0, m1, m2, m3, m4⟩, o0, o1, o2, o3, o4⟩ := five_cells F2.out
      have hlz : b + 2 < w6.heap.size := (Array.getElem?_eq_some_iff.1 F2.out).1
      replace hw7 := Lib.hid hw7
      clear gs1 S1 S2 GS L6 G6 R6 F0 FP h2e
      go_wp2_with fail
      rw [show (((w6.setCell ⟨yb, 0, none⟩ (.slice x.a x.ts.length x.c)).setCell ⟨yb, 1, none⟩ (.int .i64 (rq.i : Int))).setCell ⟨yb, 2, none⟩ (.int .i64 (rq.d : Int))).setCell ⟨yb, 3, none⟩ (.int .i64 rq.e) = w7 from hw7.out]
      rw [show ((((((((w7.setCell ⟨b + 1, 0, none⟩ (.slice x.a x.ts.length x.c)).setCell ⟨b + 1, 1, none⟩ (.int .i64 (rq.i : Int))).setCell ⟨b + 1, 2, none⟩ (.int .i64 (rq.d : Int))).setCell ⟨b + 1, 3, none⟩ (.int .i64 rq.e)).setCell ⟨b + 1 + 1, 0, none⟩ (.int .i64 0)).setCell ⟨b + 1 + 1, 1, none⟩ (.string e0)).setCell ⟨b + 1 + 1, 2, none⟩ (.int .i64 0)).setCell ⟨b + 1 + 1, 3, none⟩ (nl)).setCell ⟨b + 1 + 1, 4, none⟩ (nl) = wF from hwF.out]
      clear y0 y1 y2 y3 v0 v1 v2 v3 m0 m1 m2 m3 m4 o0 o1 o2 o3 o4
      have E1' := E1.out
      have E2' : wF.heap[b + 1 + 1]? = some (.cells #[.int .i64 0, .string e0, .int .i64 0, nl, nl] 30 (0, 0)) := E2.out
      obtain ⟨⟨t0, t1, t2, t3⟩, _⟩ := four_cells E1'
      obtain ⟨⟨s0, s1, s2, s3, s4⟩, _⟩ := five_cells E2'
      refine bodyPost_ret (v := .tuple #[stv x rq, trv (0) (e0) (0) (nl) (nl)]) (by simp [results, Tryz.results92, go_sem, t0, t1, t2, t3, s0, s1, s2, s3, s4]) rfl ⟨0, e0, 0, none, 0, 0, none, 0, 0, rfl, E3.out, hF.out, E4.out⟩
    case pos =>
      have qn : (q2.e != 0) = false := by simp [h2e]
      have qn' : (q2.e == 0) = true := by simp [h2e]
      have hi2 : Hid (q2.i = q1.i + 1) := hadv.out h2e
      have Hh2 := Lib.hid h2e
      have gs1 : Gr (fun k => k = yb) w6 ((((w6.setCell ⟨yb, 0, none⟩ (.slice x.a x.ts.length x.c)).setCell ⟨yb, 1, none⟩ (.int .i64 (q2.i : Int))).setCell ⟨yb, 2, none⟩ (.int .i64 (q2.d : Int))).setCell ⟨yb, 3, none⟩ (.int .i64 q2.e)) := set4_gr w6 yb (.slice x.a x.ts.length x.c) (.int .i64 (q2.i : Int)) (.int .i64 (q2.d : Int)) (.int .i64 q2.e)
      have hby0 := hyb0.out
      have S0 := Lib.hid (gs1.keep F0.out (by omega))
      have S1 := Lib.hid (gs1.keep F1.out (by omega))
      have S2 := Lib.hid (gs1.keep F2.out (by omega))
      have SP := Lib.hid (gs1.keep FP.out (by omega))
      have SY : Hid (((((w6.setCell ⟨yb, 0, none⟩ (.slice x.a x.ts.length x.c)).setCell ⟨yb, 1, none⟩ (.int .i64 (q2.i : Int))).setCell ⟨yb, 2, none⟩ (.int .i64 (q2.d : Int))).setCell ⟨yb, 3, none⟩ (.int .i64 q2.e)).heap[yb]? = some (stb x q2)) := set4_heap FY.out (.slice x.a x.ts.length x.c) (.int .i64 (q2.i : Int)) (.int .i64 (q2.d : Int)) (.int .i64 q2.e)
      have RS := Lib.hid (R6.out.gr gs1 (fun k hk e => by have := hNb.out; omega))
      have LS := Lib.hid (L6.out.gr gs1 (fun k hk e => by have h8 : b + 3 ≤ k ∧ k < yb := hk; omega))
      have GS := Lib.hid (G6.out.trans' gs1 (fun k hk e => by have := hbW.out; omega))
      have rep7 : Hid (Rep (fun z => w3.heap.size ≤ z ∧ z < yb) ((((w6.setCell ⟨yb, 0, none⟩ (.slice x.a x.ts.length x.c)).setCell ⟨yb, 1, none⟩ (.int .i64 (q2.i : Int))).setCell ⟨yb, 2, none⟩ (.int .i64 (q2.d : Int))).setCell ⟨yb, 3, none⟩ (.int .i64 q2.e)) T (trv pk ps pn (.slice a1 n1 c1') (.slice a2 n2 c2'))) := (rep6.out h2e).turn (fun z hz hl => ⟨hz, gs1.block z hl (by omega)⟩)
      have hcall8 := Lib.hid (rbody_c d ex hex _ q2 RS.out (by have := hwi.out; have := Hi4.out; have := hcq.out; have := Hd.out; omega))
      have hz7 := Lib.hid gs1.size
      have hz6 : Hid (yb + 2 ≤ w6.heap.size) := hlp
      clear L6 G6 R6 F0 F1 F2 FP FY h2e rep6 gs1 hby0
      go_wp2_with fail
      generalize (((w6.setCell ⟨yb, 0, none⟩ (.slice x.a x.ts.length x.c)).setCell ⟨yb, 1, none⟩ (.int .i64 (q2.i : Int))).setCell ⟨yb, 2, none⟩ (.int .i64 (q2.d : Int))).setCell ⟨yb, 3, none⟩ (.int .i64 q2.e) = w7 at S0 S1 S2 SP SY RS LS GS rep7 hcall8 hz7 ⊢
      refine hcall8.out.mono ?_
      rintro e w8 ⟨bk, bs, bn, b1, m1, d1, b2, m2, d2, rfl, rep8, hi8, g8⟩
      generalize (bodyV x.ts ex q2).2 = q3 at Hr rep8 hi8 ⊢
      generalize (bodyV x.ts ex q2).1 = U at Hr rep8 ⊢
      have T0 := Lib.hid (g8.keep S0.out (fun e => e))
      have T1 := Lib.hid (g8.keep S1.out (fun e => e))
      have T2 := Lib.hid (g8.keep S2.out (fun e => e))
      have TP := Lib.hid (g8.keep SP.out (fun e => e))
      have TY := Lib.hid (g8.keep SY.out (fun e => e))
      have LT := Lib.hid (LS.out.gr g8 (fun _ _ e => e))
      have GT := Lib.hid (GS.out.trans g8)
      have Hi8 := Lib.hid hi8
      have RT := Lib.hid ((RS.out.g0 g8).to (p' := q3) hi8.2.2 (by have := hi8.1; have := RS.out.hd; omega))
      have hz8 : Hid (yb + 2 ≤ w8.heap.size) := by have := g8.size; have := hz7.out; have := hz6.out; show _ ≤ _; omega
      have rT : Hid (q3.e = 0 → Rep (fun z => (b + 3 ≤ z ∧ z ≠ yb) ∧ (Value.slice none 0 0).ownBlock ≠ some z) w8 T (trv pk ps pn (.slice a1 n1 c1') (.slice a2 n2 c2'))) := fun _ => rep7.out.turn (fun z hz hl => ⟨⟨⟨by have := hsq.out; omega, by omega⟩, fun e => by have := hown.out z e; omega⟩, g8.block z hl (fun e => e)⟩)
      have rU : Hid (q3.e = 0 → Rep (fun z => (b + 3 ≤ z ∧ z ≠ yb) ∧ (Value.slice none 0 0).ownBlock ≠ some z) w8 U (trv bk bs bn (.slice b1 m1 d1) (.slice b2 m2 d2))) := fun e => (rep8 e).turn (fun z hz hl => by
        have h7 : w7.heap.size ≤ z := hz
        have h8 := hz7.out
        have h9 := hz6.out
        have h10 := hyb0.out
        have h11 := hs4.out
        refine ⟨⟨⟨by omega, by omega⟩, fun e => ?_⟩, rfl⟩
        have := hown.out z e
        omega)
      have hA1 : Hid ((b + 3 ≤ w8.heap.size + 1 ∧ w8.heap.size + 1 ≠ yb) ∧ (Value.slice none 0 0).ownBlock ≠ some (w8.heap.size + 1)) := by
        have h8 := hz8.out
        have h10 := hyb0.out
        have h11 := hs4.out
        refine ⟨⟨by omega, by omega⟩, fun e => ?_⟩
        have := hown.out _ e
        omega
      obtain ⟨⟨x0, x1, x2, x3⟩, w0', w1', w2', w3'⟩ := four_cells TY.out
      obtain ⟨⟨m0, m1', m2', m3, m4⟩, o0, o1, o2, o3, o4⟩ := five_cells TP.out
      obtain ⟨⟨j0, j1, j2, j3⟩, r0', r1', r2', r3'⟩ := four_cells T0.out
      have hly : yb < w8.heap.size := by have := hz8.out; omega
      have hlp : yb + 1 < w8.heap.size := by have := hz8.out; omega
      have hlb : b < w8.heap.size := by have := hz8.out; have := hyb0.out; omega
      have hmq : Hid (0 ≤ p.i + 1) := by
        obtain ⟨_, m, xs, hr3, hm3, _⟩ := LT.out
        obtain ⟨_, _, e⟩ := ownsRow_sv hr3
        cases e
        exact hm3.1
      clear S0 S1 S2 SP SY RS LS GS rep7 hcall8 hz7 rep8 hi8 g8 z0 z1 z2 z3
      go_wp2_with (first
        | (at_builtin; generalize hX : World.alloc (World.alloc (World.alloc (World.setCell _ _ _) _) _) _ = X; obtain ⟨gX, X0, Xs, Xc, XN⟩ := cls_x (A := fun z => (b + 3 ≤ z ∧ z ≠ yb) ∧ (Value.slice none 0 0).ownBlock ≠ some z) (T := T) (U := U) T0.out hX hn3 (fun z hz => ⟨by omega, by omega⟩) hA1.out rT.out rU.out; obtain ⟨hLb, m, xs, hrow, hm, hownX, hreps⟩ := (LT.out.gr gX (fun k hk e => by have h8 : b + 3 ≤ k ∧ k < yb := hk; omega)).imp (P' := fun z => b + 3 ≤ z) (fun k _ h => h.1); obtain ⟨_, _, hsv⟩ := ownsRow_sv hrow; have hul : 0 = m := (by cases hsv; rfl); subst hul; clear hsv; have HXN := Lib.hid XN; have HrX := Lib.hid hreps; have HoX := Lib.hid hownX; clear XN hreps hownX; refine wpList_own2 _ rfl 28 _ _ rfl (b + 3) 30 i0 (trv 0 e0 0 nl nl) 5 80 Tryz.underlying28 hi0 hz0' hz1 hz2 rfl (by decide) (.slice none 0 0) 0 xs ⟨w8.heap.size + 1 + 1, 0, none⟩ 1 1 [.int .i64 14, .string e0, .int .i64 0, nl, .slice (some ⟨w8.heap.size + 1, 0, none⟩) 2 2] rfl rfl hrow rfl Xc (by simp [Value.oneCell']) (by unfold maxLen; have := hmq.out; have := hRm.out; have := hcq.out; omega) (by have := hmq.out; have := hRm.out; have := hcq.out; omega) (by omega) ?_; intro v' w9 hrow9 hgr9 hloc9; obtain ⟨a9, cap9, rfl⟩ := ownsRow_sv hrow9; clear hX; have Gg : Gr (fun k => (Value.slice none 0 0).ownBlock = some k) X w9 := Gr.of_grown hgr9 (fun z e => e); have n4 : w9.heap[b]? = some (stb x q3) := Gg.keep X0 (fun e => by have h8 : b + 3 ≤ b := HoX.out b e; omega); have K0 := Lib.hid n4; obtain ⟨⟨k0, k1, k2, k3⟩, r0, r1, r2, r3⟩ := four_cells n4; have hlk : b < w9.heap.size := (Array.getElem?_eq_some_iff.1 n4).1; clear n4)
        | fail)
      have h3 := Hi4.out
      have h4 := hi2.out
      have h5 := Hi8.out
      have h6 := hcq.out
      have h7 := hwi.out
      have KL : Hid (LrE (b + 3) (fun z => b + 3 ≤ z) w9 ([] ++ [.mk 14 e0 0 [] [T, U]]) (.slice a9 (0 + 1) cap9) q3) := by
        refine LrE.grown (q := q2) hLb hrow ⟨by have := hmq.out; omega, hm.2⟩ h5.2.1 HoX.out (fun z hz => by have h8 := hLb; show b + 3 ≤ z; omega) (fun _ => ?_) (fun _ => Hh2.out) (fun e => ?_) hgr9 hloc9 hrow9 ⟨rfl, rfl⟩
        · obtain ⟨e1, vs, e2, e3⟩ := HrX.out hlt.out.1
          exact ⟨e1, vs, e2, e3⟩
        · exact (HXN.out e).turn (fun z hz hl => ⟨⟨hz.1.1, hz.2⟩, rfl⟩)
      have KR : Hid (Rz x w9 q3) := (RT.out.gr gX (fun k hk e => by have := hNb.out; have := hyb0.out; omega)).gr Gg (fun k hk e => by have h8 : b + 3 ≤ k := HoX.out k e; have := hNb.out; omega)
      have K1 := Lib.hid (Gg.keep (gX.keep T1.out (by have := hyb0.out; omega)) (fun e => by have h8 : b + 3 ≤ b + 1 := HoX.out _ e; omega))
      have K2 := Lib.hid (Gg.keep (gX.keep T2.out (by have := hyb0.out; omega)) (fun e => by have h8 : b + 3 ≤ b + 2 := HoX.out _ e; omega))
      have KG := Lib.hid ((GT.out.trans' gX (fun k hk e => by have := hyb0.out; have := hbW.out; omega)).trans' Gg (fun k hk e => by have h8 : b + 3 ≤ k := HoX.out k e; have := hbW.out; omega))
      have hqq : Hid (q3.d = p.d ∧ p.i ≤ q3.i ∧ q3.i ≤ x.ts.length) := ⟨by omega, by omega, by omega⟩
      clear hwi
      have hw := Lib.hid (rwant_c KR.out wEnd)
      have hwi := Lib.hid (wantV_i x.ts wEnd q3 KR.out.hi)
      generalize wantV x.ts wEnd q3 = q4 at Hr hw hwi ⊢
      clear KR
      refine hw.out.mono ?_
      rintro e w10 ⟨rfl, g10⟩
      have F1 := g10.keep K1.out (fun e => e)
      have F2 := g10.keep K2.out (fun e => e)
      have L10 := KL.out.gr g10 (fun _ _ e => e)
      have hF : Hid (q4.d = p.d ∧ p.i ≤ q4.i ∧ q4.i ≤ x.ts.length) := by
        have h1 := hwi.out
        have h2 := hqq.out
        exact ⟨by omega, by omega, h1.2.2.1⟩
      obtain ⟨E1, E2, E3, E4⟩ := end3 (x := x) (q := q4) (T := (.mk 13 e0 0 [] ([] ++ [.mk 14 e0 0 [] [T, U]]))) (k := 13) (s := e0) (n := 0) (bv := nl) (lv := .slice a9 (0 + 1) cap9) (KG.out.trans g10) hbW.out F1 F2 (fun he => L10.tree (hwi.out.2.2.2 he) 13 e0)
      obtain ⟨wF, hwF⟩ : ∃ wF, set5 (set4 w10 (b + 1) (.slice x.a x.ts.length x.c) (.int .i64 (q4.i : Int)) (.int .i64 (q4.d : Int)) (.int .i64 q4.e)) (b + 2) (.int .i64 13) (.string e0) (.int .i64 0) (nl) (.slice a9 (0 + 1) cap9) = wF := ⟨_, rfl⟩
      rw [hwF] at E1 E2 E3 E4
      replace E1 := Lib.hid E1
      replace E2 := Lib.hid E2
      replace E3 := Lib.hid E3
      replace E4 := Lib.hid E4
      replace hwF := Lib.hid hwF
      obtain ⟨⟨y0, y1, y2, y3⟩, v0, v1, v2, v3⟩ := four_cells F1
      obtain ⟨⟨m0, m1, m2, m3, m4⟩, o0, o1, o2, o3, o4⟩ := five_cells F2
      have hlz : b + 2 < w10.heap.size := (Array.getElem?_eq_some_iff.1 F2).1
      have hlz' : b + 1 < w10.heap.size := by omega
      clear k0 k1 k2 k3 F1 F2 L10 g10 K0 K1 K2 KL KG hw
      go_wp2_with fail
      rw [Hr.out]
      rw [show ((((((((w10.setCell ⟨b + 1, 0, none⟩ (.slice x.a x.ts.length x.c)).setCell ⟨b + 1, 1, none⟩ (.int .i64 (q4.i : Int))).setCell ⟨b + 1, 2, none⟩ (.int .i64 (q4.d : Int))).setCell ⟨b + 1, 3, none⟩ (.int .i64 q4.e)).setCell ⟨b + 1 + 1, 0, none⟩ (.int .i64 13)).setCell ⟨b + 1 + 1, 1, none⟩ (.string e0)).setCell ⟨b + 1 + 1, 2, none⟩ (.int .i64 0)).setCell ⟨b + 1 + 1, 3, none⟩ (nl)).setCell ⟨b + 1 + 1, 4, none⟩ (.slice a9 (0 + 1) cap9) = wF from hwF.out]
      clear y0 y1 y2 y3 v0 v1 v2 v3 m0 m1 m2 m3 m4 o0 o1 o2 o3 o4
      have E1' := E1.out
      have E2' : wF.heap[b + 1 + 1]? = some (.cells #[.int .i64 13, .string e0, .int .i64 0, nl, .slice a9 (0 + 1) cap9] 30 (0, 0)) := E2.out
      obtain ⟨⟨t0, t1, t2, t3⟩, _⟩ := four_cells E1'
      obtain ⟨⟨s0, s1, s2, s3, s4⟩, _⟩ := five_cells E2'
      refine bodyPost_ret (v := .tuple #[stv x q4, trv (13) (e0) (0) (nl) (.slice a9 (0 + 1) cap9)]) (by simp [results, Tryz.results92, go_sem, t0, t1, t2, t3, s0, s1, s2, s3, s4]) rfl ⟨13, e0, 0, none, 0, 0, a9, (0 + 1), cap9, rfl, E3.out, hF.out, E4.out⟩
  | false =>
    have Hr1 : Hid (r = (.mk 13 e0 0 [] (raftV x.ts ex (sevV x.ts sem (clauseV x.ts ex un) p)).1, wantV x.ts wEnd (raftV x.ts ex (sevV x.ts sem (clauseV x.ts ex un) p)).2)) := by
      show r = _
      rw [Hr0.out, rclV, if_neg (by simp [hs])]
    rw [hs] at his0
    clear Hr0 hs
    go_enter Tryz.func92, Tryz.ntmps92
    go_wp2_with fail
    generalize ((W.alloc _).alloc _).alloc _ = W1 at g0 b0 b1 b2 hz0 R0 his0 ⊢
    rw [hb] at b0 b1 b2 hz0
    refine his0.mono ?_
    rintro e w1 ⟨rfl, g1⟩
    have C0 := g1.keep b0 (fun e => e)
    have C1 := g1.keep b1 (fun e => e)
    have C2 := g1.keep b2 (fun e => e)
    have R1 := R0.out.g0 g1
    have G1 := Lib.hid (g0.trans g1)
    have hcall1 := Lib.hid (rclauses_c d ex un hex hun hse hsu R1 Hd.out)
    obtain ⟨⟨k0, k1, k2, k3⟩, f0, f1', f2, f3⟩ := four_cells C0
    have hlk : b < w1.heap.size := (Array.getElem?_eq_some_iff.1 C0).1
    have hb1 : Hid (b + 3 ≤ w1.heap.size) := by have := g1.size; show _ ≤ _; omega
    replace C0 := Lib.hid C0
    replace C1 := Lib.hid C1
    replace C2 := Lib.hid C2
    replace R1 := Lib.hid R1
    clear b0 b1 b2 R0 g0 g1 his0
    go_wp2_with fail
    refine hcall1.out.mono ?_
    rintro e w2 ⟨v, rfl, L2, hi2, g2⟩
    generalize (sevV x.ts sem (clauseV x.ts ex un) p) = rc at Hr1 L2 hi2 ⊢
    obtain ⟨cl, c⟩ := rc
    obtain ⟨ua, ul, uc, rfl⟩ := L2.sv
    have hb9 := hb1.out
    have D0 := g2.keep C0.out (by omega)
    have D1 := g2.keep C1.out (by omega)
    have D2 := g2.keep C2.out (by omega)
    have G2' : Gr (fun _ => False) W w2 := G1.out.trans' g2 (fun k hk e => by have := hbW.out; omega)
    have R2 := (R1.out.gr g2 (fun k hk e => by have := hNb.out; omega)).to (p' := c) hi2.2.2 (by have h9 : c.d = p.d := hi2.1; have := R1.out.hd; omega)
    have gs : Gr (fun k => k = b) w2 ((((w2.setCell ⟨b, 0, none⟩ (.slice x.a x.ts.length x.c)).setCell ⟨b, 1, none⟩ (.int .i64 (c.i : Int))).setCell ⟨b, 2, none⟩ (.int .i64 (c.d : Int))).setCell ⟨b, 3, none⟩ (.int .i64 c.e)) := set4_gr w2 b (.slice x.a x.ts.length x.c) (.int .i64 (c.i : Int)) (.int .i64 (c.d : Int)) (.int .i64 c.e)
    have K0 : Hid (((((w2.setCell ⟨b, 0, none⟩ (.slice x.a x.ts.length x.c)).setCell ⟨b, 1, none⟩ (.int .i64 (c.i : Int))).setCell ⟨b, 2, none⟩ (.int .i64 (c.d : Int))).setCell ⟨b, 3, none⟩ (.int .i64 c.e)).heap[b]? = some (stb x c)) := set4_heap D0 (.slice x.a x.ts.length x.c) (.int .i64 (c.i : Int)) (.int .i64 (c.d : Int)) (.int .i64 c.e)
    have K1 := Lib.hid (gs.keep D1 (by omega))
    have K2 := Lib.hid (gs.keep D2 (by omega))
    have KR := Lib.hid (R2.gr gs (fun k hk e => by have := hNb.out; omega))
    have KG := Lib.hid (G2'.trans' gs (fun k hk e => by have := hbW.out; omega))
    have KL : Hid (LrE (b + 3) (fun z => b + 3 ≤ z) ((((w2.setCell ⟨b, 0, none⟩ (.slice x.a x.ts.length x.c)).setCell ⟨b, 1, none⟩ (.int .i64 (c.i : Int))).setCell ⟨b, 2, none⟩ (.int .i64 (c.d : Int))).setCell ⟨b, 3, none⟩ (.int .i64 c.e)) cl (.slice ua ul uc) c) := ((L2.gr gs (fun k hk e => by have h8 : w1.heap.size ≤ k := hk; omega)).imp (P' := fun z => b + 3 ≤ z) (fun k _ h => by have h8 : w1.heap.size ≤ k := h; omega)).mono hb9
    have hcq : Hid (c.d = p.d ∧ p.i ≤ c.i ∧ c.i ≤ x.ts.length) := hi2
    obtain ⟨⟨z0, z1, z2, z3⟩, h0', h1', h2', h3'⟩ := four_cells D0
    have hlk2 : b < w2.heap.size := (Array.getElem?_eq_some_iff.1 D0).1
    have hIS := Lib.hid (ris_c KR.out wAft)
    cases hs : isV x.ts c wAft with
    | true =>
      have Hr : Hid (r = (.mk 13 e0 0 [] (cl ++ [.mk 14 e0 0 [] [(ex c.next).1, (bodyV x.ts ex (wantV x.ts arw (ex c.next).2)).1]]), wantV x.ts wEnd (bodyV x.ts ex (wantV x.ts arw (ex c.next).2)).2)) := by
        show r = _
        rw [Hr1.out]
        unfold raftV
        rw [if_pos hs]
        rfl
      clear Hr1 gs D0 D1 D2 G2' R2 L2 hi2 g2 hcall1 C0 C1 C2 R1 G1 k0 k1 k2 k3 f0 f1' f2 f3
      have hlt := Lib.hid (isV_lt' hs)
      have his := ris_c KR.out wAft
      rw [hs] at his
      have hcI : (c.i : Int) ≤ 100000 := by have := hcq.out; have := hRm.out; omega
      clear hs
      replace his := Lib.hid his
      go_wp2_with fail
      generalize (((w2.setCell ⟨b, 0, none⟩ (.slice x.a x.ts.length x.c)).setCell ⟨b, 1, none⟩ (.int .i64 (c.i : Int))).setCell ⟨b, 2, none⟩ (.int .i64 (c.d : Int))).setCell ⟨b, 3, none⟩ (.int .i64 c.e) = w1z at K0 K1 K2 KR KG KL his ⊢
      replace his := his.out
      clear z0 z1 z2 z3 h0' h1' h2' h3' hlk hlk2 hb9 hIS
      refine his.mono ?_
      rintro e w2 ⟨rfl, g2⟩
      have C0 := g2.keep K0.out (fun e => e)
      have C1 := g2.keep K1.out (fun e => e)
      have C2 := g2.keep K2.out (fun e => e)
      have L2 := Lib.hid (KL.out.gr g2 (fun _ _ e => e))
      have R2 := KR.out.g0 g2
      have G2' := Lib.hid (KG.out.trans g2)
      clear his KL KG KR
      obtain ⟨⟨c0, c1, c2, c3⟩, f0, f1', f2, f3⟩ := four_cells C0
      have hl2 : b + 1 < w2.heap.size := (Array.getElem?_eq_some_iff.1 C1).1
      have hl2' : b < w2.heap.size := by omega
      have gs : Gr (fun k => k = b) w2 (w2.setCell ⟨b, 1, none⟩ (.int .i64 ((c.i : Int) + 1))) := Gr.set _ _ _ rfl
      have S0 : Hid ((w2.setCell ⟨b, 1, none⟩ (.int .i64 ((c.i : Int) + 1))).heap[b]? = some (stb x c.next)) := heap_setCell_same w2 b 1 _ 45 _ C0
      have S1 := Lib.hid (gs.keep C1 (by omega))
      have S2 := Lib.hid (gs.keep C2 (by omega))
      have R3 : Hid (Rz x (w2.setCell ⟨b, 1, none⟩ (.int .i64 ((c.i : Int) + 1))) c.next) := (R2.gr gs (fun k hk e => by have := hNb.out; omega)).to (by show c.i + 1 ≤ _; have := hlt.out; omega) R2.hd
      have L3 : Hid (LrE (b + 3) (fun z => b + 3 ≤ z) (w2.setCell ⟨b, 1, none⟩ (.int .i64 ((c.i : Int) + 1))) cl (.slice ua ul uc) c) := L2.out.gr gs (fun k hk e => by have h8 : b + 3 ≤ k := hk; omega)
      have G3 : Hid (Gr (fun _ => False) W (w2.setCell ⟨b, 1, none⟩ (.int .i64 ((c.i : Int) + 1)))) := G2'.out.trans' gs (fun k hk e => by have := hbW.out; omega)
      have hcall := Lib.hid (hex _ c.next R3.out (by have h1 := hcq.out.1; have h2 := Hd.out; show c.d = d; omega))
      clear K0 K1 K2 C1 C2 gs R2 L2 G2' C0 g2
      go_wp2_with fail
      generalize w2.setCell ⟨b, 1, none⟩ _ = w3 at S0 S1 S2 R3 L3 G3 hcall ⊢
      have K0 := S0
      have K1 := S1
      have K2 := S2
      have KR := R3
      have KL := L3
      have KG := G3
      clear S0 S1 S2 R3 L3 G3
      refine hcall.out.mono ?_
      rintro e w4 ⟨pk, ps, pn, a1, n1, c1', a2, n2, c2', rfl, rep4, hi4, g4⟩
      generalize (ex c.next).2 = q1 at Hr rep4 hi4 ⊢
      generalize (ex c.next).1 = T at Hr rep4 ⊢
      have D0 := Lib.hid (g4.keep K0.out (fun e => e))
      have D1 := Lib.hid (g4.keep K1.out (fun e => e))
      have D2 := Lib.hid (g4.keep K2.out (fun e => e))
      have L4 : Hid (LrE (b + 3) (fun z => b + 3 ≤ z ∧ z < w4.heap.size) w4 cl (.slice ua ul uc) c) := (KL.out.gr g4 (fun _ _ e => e)).imp (P' := fun z => b + 3 ≤ z ∧ z < w4.heap.size) (fun k hk h => ⟨h, hk⟩)
      have hown : Hid (∀ k, (Value.slice ua ul uc).ownBlock = some k → k < w3.heap.size) := by
        obtain ⟨_, _, _, hr3, _⟩ := KL.out
        exact fun k hk => (ownsRow_lt hr3 k hk).2
      have G4 := Lib.hid (KG.out.trans g4)
      have Hi4 : Hid (q1.d = c.d ∧ c.i + 1 ≤ q1.i ∧ q1.i ≤ x.ts.length) := hi4
      have hsq : Hid (b + 3 ≤ w3.heap.size) := by have := (Array.getElem?_eq_some_iff.1 K2.out).1; show _ ≤ _; omega
      have hs4 : Hid (w3.heap.size ≤ w4.heap.size) := g4.size
      have R5 := Lib.hid ((KR.out.g0 g4).to (p' := q1) Hi4.out.2.2 (by have := KR.out.hd; have := Hi4.out.1; have h9 : c.next.d = c.d := rfl; omega))
      obtain ⟨gX, XY, XT, hsX⟩ := two_new (x := x) (w2 := w4) (q := q1) (tk := pk) (tt := ps) (tn := pn) (u1 := .slice a1 n1 c1') (u2 := .slice a2 n2 c2') rfl
      have RX := (R5.out.g0 gX)
      have hwi := Lib.hid (wantV_i x.ts arw q1 Hi4.out.2.2)
      have hadv := Lib.hid (want_adv x.ts arw q1)
      have hw := Lib.hid (rwant_c RX arw)
      have Hrep4 : Hid (q1.e = 0 → Rep (fun z => w3.heap.size ≤ z) w4 T (trv pk ps pn (.slice a1 n1 c1') (.slice a2 n2 c2'))) := rep4
      replace RX := Lib.hid RX
      generalize wantV x.ts arw q1 = q2 at Hr hw hwi hadv ⊢
      clear K0 K1 K2 KL KG KR rep4 hi4 g4 R5 c0 c1 c2 c3 f0 f1' f2 f3 hcall
      go_wp2_with fail
      generalize (w4.alloc (stb x q1)).alloc _ = w5 at gX XY XT hsX RX hw ⊢
      obtain ⟨yb, hyb⟩ : ∃ yb, w4.heap.size = yb := ⟨_, rfl⟩
      have hyb0 : Hid (b + 3 ≤ yb) := by have := hsq.out; have := hs4.out; show _ ≤ _; omega
      rw [hyb] at XY XT L4 ⊢
      refine hw.out.mono ?_
      rintro e w6 ⟨rfl, g6⟩
      have F0 := Lib.hid (g6.keep (gX.keep D0.out (fun e => e)) (fun e => e))
      have F1 := Lib.hid (g6.keep (gX.keep D1.out (fun e => e)) (fun e => e))
      have F2 := Lib.hid (g6.keep (gX.keep D2.out (fun e => e)) (fun e => e))
      have FY := Lib.hid (g6.keep XY (fun e => e))
      have FP := Lib.hid (g6.keep XT (fun e => e))
      have L6 := Lib.hid ((L4.out.gr gX (fun _ _ e => e)).gr g6 (fun _ _ e => e))
      have G6 := Lib.hid ((G4.out.trans gX).trans g6)
      have R6 := Lib.hid ((RX.out.g0 g6).to (p' := q2) hwi.out.2.2.1 (by have := hwi.out.1; have := RX.out.hd; omega))
      have rep6 : Hid (q2.e = 0 → Rep (fun z => w3.heap.size ≤ z ∧ z < yb) w6 T (trv pk ps pn (.slice a1 n1 c1') (.slice a2 n2 c2'))) := fun e => (Hrep4.out (hwi.out.2.2.2 e)).turn (fun z hz hl => ⟨⟨hz, by omega⟩, (g6.block z (Nat.lt_of_lt_of_le hl gX.size) (fun e => e)).trans (gX.block z hl (fun e => e))⟩)
      obtain ⟨⟨z0, z1, z2, z3⟩, w0', w1', w2', w3'⟩ := four_cells FY.out
      have hly : yb < w6.heap.size := (Array.getElem?_eq_some_iff.1 FY.out).1
      have hlp : yb + 1 < w6.heap.size := (Array.getElem?_eq_some_iff.1 FP.out).1
      have hlb : b < w6.heap.size := by have := hyb0.out; omega
      have hlb1 : b + 1 < w6.heap.size := by have := hyb0.out; omega
      have hn1 : yb ≠ b := by have := hyb0.out; omega
      have hn2 : yb + 1 ≠ b := by have := hyb0.out; omega
      have hn3 : b ≠ yb := by have := hyb0.out; omega
      have hn4 : b ≠ yb + 1 := by have := hyb0.out; omega
      have hn5 : yb ≠ b + 1 := by have := hyb0.out; omega
      have hn6 : b + 1 ≠ yb := by have := hyb0.out; omega
      have hn7 : yb ≠ b + 1 + 1 := by have := hyb0.out; omega
      have hn8 : b + 1 + 1 ≠ yb := by have := hyb0.out; omega
      clear D0 D1 D2 L4 G4 XY XT hw RX gX g6 Hrep4 hsX
      by_cases h2e : q2.e = 0
      case neg =>
        have qn : (q2.e != 0) = true := by rw [bne_iff_ne]; exact h2e
        have qn' : (q2.e == 0) = false := by simpa using h2e
        have Hr2 : Hid (r.2 = q2) := by
          show r.2 = q2
          rw [Hr.out]
          have e1 : (bodyV x.ts ex q2).2 = q2 := sevV_err hse h2e cma
          show wantV x.ts wEnd (bodyV x.ts ex q2).2 = q2
          rw [e1, wantV_err h2e]
        have gs1 := set4_gr w6 yb (.slice x.a x.ts.length x.c) (.int .i64 (q2.i : Int)) (.int .i64 (q2.d : Int)) (.int .i64 q2.e)
        have S1 := gs1.keep F1.out (by omega)
        have S2 := gs1.keep F2.out (by have := hyb0.out; omega)
        have GS := G6.out.trans' gs1 (fun k hk e => by have := hbW.out; have := hyb0.out; omega)
        obtain ⟨w7, hw7⟩ : ∃ w7, set4 w6 yb (.slice x.a x.ts.length x.c) (.int .i64 (q2.i : Int)) (.int .i64 (q2.d : Int)) (.int .i64 q2.e) = w7 := ⟨_, rfl⟩
        rw [hw7] at gs1 S1 S2 GS
        have Hh2 := Lib.hid h2e
        obtain ⟨rt, rq⟩ := r
        have hrq : rq = q2 := Hr2.out
        subst hrq
        have hF : Hid (rq.d = p.d ∧ p.i ≤ rq.i ∧ rq.i ≤ x.ts.length) := by
          have h9 := hwi.out
          have h10 := Hi4.out
          have h11 := hcq.out
          exact ⟨by omega, by omega, h9.2.2.1⟩
        obtain ⟨E1, E2, E3, E4⟩ := end3 (x := x) (q := rq) (T := rt) (k := 0) (s := e0) (n := 0) (bv := nl) (lv := nl) (GS) hbW.out S1 S2 (fun he => absurd he h2e)
        obtain ⟨wF, hwF⟩ : ∃ wF, set5 (set4 w7 (b + 1) (.slice x.a x.ts.length x.c) (.int .i64 (rq.i : Int)) (.int .i64 (rq.d : Int)) (.int .i64 rq.e)) (b + 2) (.int .i64 0) (.string e0) (.int .i64 0) (nl) (nl) = wF := ⟨_, rfl⟩
        rw [hwF] at E1 E2 E3 E4
        replace E1 := Lib.hid E1
        replace E2 := Lib.hid E2
        replace E3 := Lib.hid E3
        replace E4 := Lib.hid E4
        replace hwF := Lib.hid hwF
        obtain ⟨⟨y0, y1, y2, y3⟩, v0, v1, v2, v3⟩ := four_cells S1
        obtain ⟨⟨m0, m1, m2, m3, m4⟩, o0, o1, o2, o3, o4⟩ := five_cells S2
        have hlz : b + 2 < w7.heap.size := (Array.getElem?_eq_some_iff.1 S2).1
        have hlz' : b + 1 < w7.heap.size := by omega
        clear y0 y1 y2 y3 v0 v1 v2 v3 m0 m1 m2 m3 m4 o0 o1 o2 o3 o4 hlz hlz'
        obtain ⟨⟨y0, y1, y2, y3⟩, v0, v1, v2, v3⟩ := four_cells F1.out
        obtain ⟨⟨m0, m1, m2, m3, m4⟩, o0, o1, o2, o3, o4⟩ := five_cells F2.out
        have hlz : b + 2 < w6.heap.size := (Array.getElem?_eq_some_iff.1 F2.out).1
        replace hw7 := Lib.hid hw7
        clear gs1 S1 S2 GS L6 G6 R6 F0 FP h2e
        go_wp2_with fail
        rw [show (((w6.setCell ⟨yb, 0, none⟩ (.slice x.a x.ts.length x.c)).setCell ⟨yb, 1, none⟩ (.int .i64 (rq.i : Int))).setCell ⟨yb, 2, none⟩ (.int .i64 (rq.d : Int))).setCell ⟨yb, 3, none⟩ (.int .i64 rq.e) = w7 from hw7.out]
        rw [show ((((((((w7.setCell ⟨b + 1, 0, none⟩ (.slice x.a x.ts.length x.c)).setCell ⟨b + 1, 1, none⟩ (.int .i64 (rq.i : Int))).setCell ⟨b + 1, 2, none⟩ (.int .i64 (rq.d : Int))).setCell ⟨b + 1, 3, none⟩ (.int .i64 rq.e)).setCell ⟨b + 1 + 1, 0, none⟩ (.int .i64 0)).setCell ⟨b + 1 + 1, 1, none⟩ (.string e0)).setCell ⟨b + 1 + 1, 2, none⟩ (.int .i64 0)).setCell ⟨b + 1 + 1, 3, none⟩ (nl)).setCell ⟨b + 1 + 1, 4, none⟩ (nl) = wF from hwF.out]
        clear y0 y1 y2 y3 v0 v1 v2 v3 m0 m1 m2 m3 m4 o0 o1 o2 o3 o4
        have E1' := E1.out
        have E2' : wF.heap[b + 1 + 1]? = some (.cells #[.int .i64 0, .string e0, .int .i64 0, nl, nl] 30 (0, 0)) := E2.out
        obtain ⟨⟨t0, t1, t2, t3⟩, _⟩ := four_cells E1'
        obtain ⟨⟨s0, s1, s2, s3, s4⟩, _⟩ := five_cells E2'
        refine bodyPost_ret (v := .tuple #[stv x rq, trv (0) (e0) (0) (nl) (nl)]) (by simp [results, Tryz.results92, go_sem, t0, t1, t2, t3, s0, s1, s2, s3, s4]) rfl ⟨0, e0, 0, none, 0, 0, none, 0, 0, rfl, E3.out, hF.out, E4.out⟩
      case pos =>
        have qn : (q2.e != 0) = false := by simp [h2e]
        have qn' : (q2.e == 0) = true := by simp [h2e]
        have hi2 : Hid (q2.i = q1.i + 1) := hadv.out h2e
        have Hh2 := Lib.hid h2e
        have gs1 : Gr (fun k => k = yb) w6 ((((w6.setCell ⟨yb, 0, none⟩ (.slice x.a x.ts.length x.c)).setCell ⟨yb, 1, none⟩ (.int .i64 (q2.i : Int))).setCell ⟨yb, 2, none⟩ (.int .i64 (q2.d : Int))).setCell ⟨yb, 3, none⟩ (.int .i64 q2.e)) := set4_gr w6 yb (.slice x.a x.ts.length x.c) (.int .i64 (q2.i : Int)) (.int .i64 (q2.d : Int)) (.int .i64 q2.e)
        have hby0 := hyb0.out
        have S0 := Lib.hid (gs1.keep F0.out (by omega))
        have S1 := Lib.hid (gs1.keep F1.out (by omega))
        have S2 := Lib.hid (gs1.keep F2.out (by omega))
        have SP := Lib.hid (gs1.keep FP.out (by omega))
        have SY : Hid (((((w6.setCell ⟨yb, 0, none⟩ (.slice x.a x.ts.length x.c)).setCell ⟨yb, 1, none⟩ (.int .i64 (q2.i : Int))).setCell ⟨yb, 2, none⟩ (.int .i64 (q2.d : Int))).setCell ⟨yb, 3, none⟩ (.int .i64 q2.e)).heap[yb]? = some (stb x q2)) := set4_heap FY.out (.slice x.a x.ts.length x.c) (.int .i64 (q2.i : Int)) (.int .i64 (q2.d : Int)) (.int .i64 q2.e)
        have RS := Lib.hid (R6.out.gr gs1 (fun k hk e => by have := hNb.out; omega))
        have LS := Lib.hid (L6.out.gr gs1 (fun k hk e => by have h8 : b + 3 ≤ k ∧ k < yb := hk; omega))
        have GS := Lib.hid (G6.out.trans' gs1 (fun k hk e => by have := hbW.out; omega))
        have rep7 : Hid (Rep (fun z => w3.heap.size ≤ z ∧ z < yb) ((((w6.setCell ⟨yb, 0, none⟩ (.slice x.a x.ts.length x.c)).setCell ⟨yb, 1, none⟩ (.int .i64 (q2.i : Int))).setCell ⟨yb, 2, none⟩ (.int .i64 (q2.d : Int))).setCell ⟨yb, 3, none⟩ (.int .i64 q2.e)) T (trv pk ps pn (.slice a1 n1 c1') (.slice a2 n2 c2'))) := (rep6.out h2e).turn (fun z hz hl => ⟨hz, gs1.block z hl (by omega)⟩)
        have hcall8 := Lib.hid (rbody_c d ex hex _ q2 RS.out (by have := hwi.out; have := Hi4.out; have := hcq.out; have := Hd.out; omega))
        have hz7 := Lib.hid gs1.size
        have hz6 : Hid (yb + 2 ≤ w6.heap.size) := hlp
        clear L6 G6 R6 F0 F1 F2 FP FY h2e rep6 gs1 hby0
        go_wp2_with fail
        generalize (((w6.setCell ⟨yb, 0, none⟩ (.slice x.a x.ts.length x.c)).setCell ⟨yb, 1, none⟩ (.int .i64 (q2.i : Int))).setCell ⟨yb, 2, none⟩ (.int .i64 (q2.d : Int))).setCell ⟨yb, 3, none⟩ (.int .i64 q2.e) = w7 at S0 S1 S2 SP SY RS LS GS rep7 hcall8 hz7 ⊢
        refine hcall8.out.mono ?_
        rintro e w8 ⟨bk, bs, bn, b1, m1, d1, b2, m2, d2, rfl, rep8, hi8, g8⟩
        generalize (bodyV x.ts ex q2).2 = q3 at Hr rep8 hi8 ⊢
        generalize (bodyV x.ts ex q2).1 = U at Hr rep8 ⊢
        have T0 := Lib.hid (g8.keep S0.out (fun e => e))
        have T1 := Lib.hid (g8.keep S1.out (fun e => e))
        have T2 := Lib.hid (g8.keep S2.out (fun e => e))
        have TP := Lib.hid (g8.keep SP.out (fun e => e))
        have TY := Lib.hid (g8.keep SY.out (fun e => e))
        have LT := Lib.hid (LS.out.gr g8 (fun _ _ e => e))
        have GT := Lib.hid (GS.out.trans g8)
        have Hi8 := Lib.hid hi8
        have RT := Lib.hid ((RS.out.g0 g8).to (p' := q3) hi8.2.2 (by have := hi8.1; have := RS.out.hd; omega))
        have hz8 : Hid (yb + 2 ≤ w8.heap.size) := by have := g8.size; have := hz7.out; have := hz6.out; show _ ≤ _; omega
        have rT : Hid (q3.e = 0 → Rep (fun z => (b + 3 ≤ z ∧ z ≠ yb) ∧ (Value.slice ua ul uc).ownBlock ≠ some z) w8 T (trv pk ps pn (.slice a1 n1 c1') (.slice a2 n2 c2'))) := fun _ => rep7.out.turn (fun z hz hl => ⟨⟨⟨by have := hsq.out; omega, by omega⟩, fun e => by have := hown.out z e; omega⟩, g8.block z hl (fun e => e)⟩)
        have rU : Hid (q3.e = 0 → Rep (fun z => (b + 3 ≤ z ∧ z ≠ yb) ∧ (Value.slice ua ul uc).ownBlock ≠ some z) w8 U (trv bk bs bn (.slice b1 m1 d1) (.slice b2 m2 d2))) := fun e => (rep8 e).turn (fun z hz hl => by
          have h7 : w7.heap.size ≤ z := hz
          have h8 := hz7.out
          have h9 := hz6.out
          have h10 := hyb0.out
          have h11 := hs4.out
          refine ⟨⟨⟨by omega, by omega⟩, fun e => ?_⟩, rfl⟩
          have := hown.out z e
          omega)
        have hA1 : Hid ((b + 3 ≤ w8.heap.size + 1 ∧ w8.heap.size + 1 ≠ yb) ∧ (Value.slice ua ul uc).ownBlock ≠ some (w8.heap.size + 1)) := by
          have h8 := hz8.out
          have h10 := hyb0.out
          have h11 := hs4.out
          refine ⟨⟨by omega, by omega⟩, fun e => ?_⟩
          have := hown.out _ e
          omega
        obtain ⟨⟨x0, x1, x2, x3⟩, w0', w1', w2', w3'⟩ := four_cells TY.out
        obtain ⟨⟨m0, m1', m2', m3, m4⟩, o0, o1, o2, o3, o4⟩ := five_cells TP.out
        obtain ⟨⟨j0, j1, j2, j3⟩, r0', r1', r2', r3'⟩ := four_cells T0.out
        have hly : yb < w8.heap.size := by have := hz8.out; omega
        have hlp : yb + 1 < w8.heap.size := by have := hz8.out; omega
        have hlb : b < w8.heap.size := by have := hz8.out; have := hyb0.out; omega
        have hmq : Hid (ul ≤ c.i + 1) := by
          obtain ⟨_, m, xs, hr3, hm3, _⟩ := LT.out
          obtain ⟨_, _, e⟩ := ownsRow_sv hr3
          cases e
          exact hm3.1
        clear S0 S1 S2 SP SY RS LS GS rep7 hcall8 hz7 rep8 hi8 g8 z0 z1 z2 z3
        go_wp2_with (first
          | (at_builtin; generalize hX : World.alloc (World.alloc (World.alloc (World.setCell _ _ _) _) _) _ = X; obtain ⟨gX, X0, Xs, Xc, XN⟩ := cls_x (A := fun z => (b + 3 ≤ z ∧ z ≠ yb) ∧ (Value.slice ua ul uc).ownBlock ≠ some z) (T := T) (U := U) T0.out hX hn3 (fun z hz => ⟨by omega, by omega⟩) hA1.out rT.out rU.out; obtain ⟨hLb, m, xs, hrow, hm, hownX, hreps⟩ := (LT.out.gr gX (fun k hk e => by have h8 : b + 3 ≤ k ∧ k < yb := hk; omega)).imp (P' := fun z => b + 3 ≤ z) (fun k _ h => h.1); obtain ⟨_, _, hsv⟩ := ownsRow_sv hrow; have hul : ul = m := (by cases hsv; rfl); subst hul; clear hsv; have HXN := Lib.hid XN; have HrX := Lib.hid hreps; have HoX := Lib.hid hownX; clear XN hreps hownX; refine wpList_own2 _ rfl 28 _ _ rfl (b + 3) 30 i0 (trv 0 e0 0 nl nl) 5 80 Tryz.underlying28 hi0 hz0' hz1 hz2 rfl (by decide) (.slice ua ul uc) ul xs ⟨w8.heap.size + 1 + 1, 0, none⟩ 1 1 [.int .i64 14, .string e0, .int .i64 0, nl, .slice (some ⟨w8.heap.size + 1, 0, none⟩) 2 2] rfl rfl hrow rfl Xc (by simp [Value.oneCell']) (by unfold maxLen; have := hmq.out; have := hRm.out; have := hcq.out; omega) (by have := hmq.out; have := hRm.out; have := hcq.out; omega) (by omega) ?_; intro v' w9 hrow9 hgr9 hloc9; obtain ⟨a9, cap9, rfl⟩ := ownsRow_sv hrow9; clear hX; have Gg : Gr (fun k => (Value.slice ua ul uc).ownBlock = some k) X w9 := Gr.of_grown hgr9 (fun z e => e); have n4 : w9.heap[b]? = some (stb x q3) := Gg.keep X0 (fun e => by have h8 : b + 3 ≤ b := HoX.out b e; omega); have K0 := Lib.hid n4; obtain ⟨⟨k0, k1, k2, k3⟩, r0, r1, r2, r3⟩ := four_cells n4; have hlk : b < w9.heap.size := (Array.getElem?_eq_some_iff.1 n4).1; clear n4)
          | fail)
        have h3 := Hi4.out
        have h4 := hi2.out
        have h5 := Hi8.out
        have h6 := hcq.out
        have h7 := hwi.out
        have KL : Hid (LrE (b + 3) (fun z => b + 3 ≤ z) w9 (cl ++ [.mk 14 e0 0 [] [T, U]]) (.slice a9 (ul + 1) cap9) q3) := by
          refine LrE.grown (q := q2) hLb hrow ⟨by have := hmq.out; omega, hm.2⟩ h5.2.1 HoX.out (fun z hz => by have h8 := hLb; show b + 3 ≤ z; omega) (fun _ => ?_) (fun _ => Hh2.out) (fun e => ?_) hgr9 hloc9 hrow9 ⟨rfl, rfl⟩
          · obtain ⟨e1, vs, e2, e3⟩ := HrX.out hlt.out.1
            exact ⟨e1, vs, e2, e3⟩
          · exact (HXN.out e).turn (fun z hz hl => ⟨⟨hz.1.1, hz.2⟩, rfl⟩)
        have KR : Hid (Rz x w9 q3) := (RT.out.gr gX (fun k hk e => by have := hNb.out; have := hyb0.out; omega)).gr Gg (fun k hk e => by have h8 : b + 3 ≤ k := HoX.out k e; have := hNb.out; omega)
        have K1 := Lib.hid (Gg.keep (gX.keep T1.out (by have := hyb0.out; omega)) (fun e => by have h8 : b + 3 ≤ b + 1 := HoX.out _ e; omega))
        have K2 := Lib.hid (Gg.keep (gX.keep T2.out (by have := hyb0.out; omega)) (fun e => by have h8 : b + 3 ≤ b + 2 := HoX.out _ e; omega))
        have KG := Lib.hid ((GT.out.trans' gX (fun k hk e => by have := hyb0.out; have := hbW.out; omega)).trans' Gg (fun k hk e => by have h8 : b + 3 ≤ k := HoX.out k e; have := hbW.out; omega))
        have hqq : Hid (q3.d = p.d ∧ p.i ≤ q3.i ∧ q3.i ≤ x.ts.length) := ⟨by omega, by omega, by omega⟩
        clear hwi
        have hw := Lib.hid (rwant_c KR.out wEnd)
        have hwi := Lib.hid (wantV_i x.ts wEnd q3 KR.out.hi)
        generalize wantV x.ts wEnd q3 = q4 at Hr hw hwi ⊢
        clear KR
        refine hw.out.mono ?_
        rintro e w10 ⟨rfl, g10⟩
        have F1 := g10.keep K1.out (fun e => e)
        have F2 := g10.keep K2.out (fun e => e)
        have L10 := KL.out.gr g10 (fun _ _ e => e)
        have hF : Hid (q4.d = p.d ∧ p.i ≤ q4.i ∧ q4.i ≤ x.ts.length) := by
          have h1 := hwi.out
          have h2 := hqq.out
          exact ⟨by omega, by omega, h1.2.2.1⟩
        obtain ⟨E1, E2, E3, E4⟩ := end3 (x := x) (q := q4) (T := (.mk 13 e0 0 [] (cl ++ [.mk 14 e0 0 [] [T, U]]))) (k := 13) (s := e0) (n := 0) (bv := nl) (lv := .slice a9 (ul + 1) cap9) (KG.out.trans g10) hbW.out F1 F2 (fun he => L10.tree (hwi.out.2.2.2 he) 13 e0)
        obtain ⟨wF, hwF⟩ : ∃ wF, set5 (set4 w10 (b + 1) (.slice x.a x.ts.length x.c) (.int .i64 (q4.i : Int)) (.int .i64 (q4.d : Int)) (.int .i64 q4.e)) (b + 2) (.int .i64 13) (.string e0) (.int .i64 0) (nl) (.slice a9 (ul + 1) cap9) = wF := ⟨_, rfl⟩
        rw [hwF] at E1 E2 E3 E4
        replace E1 := Lib.hid E1
        replace E2 := Lib.hid E2
        replace E3 := Lib.hid E3
        replace E4 := Lib.hid E4
        replace hwF := Lib.hid hwF
        obtain ⟨⟨y0, y1, y2, y3⟩, v0, v1, v2, v3⟩ := four_cells F1
        obtain ⟨⟨m0, m1, m2, m3, m4⟩, o0, o1, o2, o3, o4⟩ := five_cells F2
        have hlz : b + 2 < w10.heap.size := (Array.getElem?_eq_some_iff.1 F2).1
        have hlz' : b + 1 < w10.heap.size := by omega
        clear k0 k1 k2 k3 F1 F2 L10 g10 K0 K1 K2 KL KG hw
        go_wp2_with fail
        rw [Hr.out]
        rw [show ((((((((w10.setCell ⟨b + 1, 0, none⟩ (.slice x.a x.ts.length x.c)).setCell ⟨b + 1, 1, none⟩ (.int .i64 (q4.i : Int))).setCell ⟨b + 1, 2, none⟩ (.int .i64 (q4.d : Int))).setCell ⟨b + 1, 3, none⟩ (.int .i64 q4.e)).setCell ⟨b + 1 + 1, 0, none⟩ (.int .i64 13)).setCell ⟨b + 1 + 1, 1, none⟩ (.string e0)).setCell ⟨b + 1 + 1, 2, none⟩ (.int .i64 0)).setCell ⟨b + 1 + 1, 3, none⟩ (nl)).setCell ⟨b + 1 + 1, 4, none⟩ (.slice a9 (ul + 1) cap9) = wF from hwF.out]
        clear y0 y1 y2 y3 v0 v1 v2 v3 m0 m1 m2 m3 m4 o0 o1 o2 o3 o4
        have E1' := E1.out
        have E2' : wF.heap[b + 1 + 1]? = some (.cells #[.int .i64 13, .string e0, .int .i64 0, nl, .slice a9 (ul + 1) cap9] 30 (0, 0)) := E2.out
        obtain ⟨⟨t0, t1, t2, t3⟩, _⟩ := four_cells E1'
        obtain ⟨⟨s0, s1, s2, s3, s4⟩, _⟩ := five_cells E2'
        refine bodyPost_ret (v := .tuple #[stv x q4, trv (13) (e0) (0) (nl) (.slice a9 (ul + 1) cap9)]) (by simp [results, Tryz.results92, go_sem, t0, t1, t2, t3, s0, s1, s2, s3, s4]) rfl ⟨13, e0, 0, none, 0, 0, a9, (ul + 1), cap9, rfl, E3.out, hF.out, E4.out⟩
    | false =>
      have Hr : Hid (r = (.mk 13 e0 0 [] cl, wantV x.ts wEnd c)) := by
        show r = _
        rw [Hr1.out]
        unfold raftV
        rw [if_neg (by simp [hs])]
      have his := hIS.out
      rw [hs] at his
      replace his := Lib.hid his
      clear hs Hr1 gs D0 D1 D2 G2' R2 L2 hi2 g2 hcall1 C0 C1 C2 R1 G1 k0 k1 k2 k3 f0 f1' f2 f3 hIS
      go_wp2_with fail
      generalize (((w2.setCell ⟨b, 0, none⟩ (.slice x.a x.ts.length x.c)).setCell ⟨b, 1, none⟩ (.int .i64 (c.i : Int))).setCell ⟨b, 2, none⟩ (.int .i64 (c.d : Int))).setCell ⟨b, 3, none⟩ (.int .i64 c.e) = w3 at K0 K1 K2 KR KG KL his ⊢
      refine his.out.mono ?_
      rintro e w4 ⟨rfl, g4⟩
      replace K0 := Lib.hid (g4.keep K0.out (fun e => e))
      replace K1 := Lib.hid (g4.keep K1.out (fun e => e))
      replace K2 := Lib.hid (g4.keep K2.out (fun e => e))
      replace KR := Lib.hid (KR.out.g0 g4)
      replace KG := Lib.hid (KG.out.trans g4)
      replace KL := Lib.hid (KL.out.gr g4 (fun _ _ e => e))
      have hqq := hcq
      clear g4 z0 z1 z2 z3 h0' h1' h2' h3' hlk hlk2 his hb9
      have hw := Lib.hid (rwant_c KR.out wEnd)
      have hwi := Lib.hid (wantV_i x.ts wEnd c KR.out.hi)
      generalize wantV x.ts wEnd c = q4 at Hr hw hwi ⊢
      clear KR
      obtain ⟨⟨k0, k1, k2, k3⟩, f0, f1', f2, f3⟩ := four_cells K0.out
      have hlk : b < w4.heap.size := (Array.getElem?_eq_some_iff.1 K0.out).1
      go_wp2_with fail
      refine hw.out.mono ?_
      rintro e w10 ⟨rfl, g10⟩
      have F1 := g10.keep K1.out (fun e => e)
      have F2 := g10.keep K2.out (fun e => e)
      have L10 := KL.out.gr g10 (fun _ _ e => e)
      have hF : Hid (q4.d = p.d ∧ p.i ≤ q4.i ∧ q4.i ≤ x.ts.length) := by
        have h1 := hwi.out
        have h2 := hqq.out
        exact ⟨by omega, by omega, h1.2.2.1⟩
      obtain ⟨E1, E2, E3, E4⟩ := end3 (x := x) (q := q4) (T := (.mk 13 e0 0 [] cl)) (k := 13) (s := e0) (n := 0) (bv := nl) (lv := .slice ua ul uc) (KG.out.trans g10) hbW.out F1 F2 (fun he => L10.tree (hwi.out.2.2.2 he) 13 e0)
      obtain ⟨wF, hwF⟩ : ∃ wF, set5 (set4 w10 (b + 1) (.slice x.a x.ts.length x.c) (.int .i64 (q4.i : Int)) (.int .i64 (q4.d : Int)) (.int .i64 q4.e)) (b + 2) (.int .i64 13) (.string e0) (.int .i64 0) (nl) (.slice ua ul uc) = wF := ⟨_, rfl⟩
      rw [hwF] at E1 E2 E3 E4
      replace E1 := Lib.hid E1
      replace E2 := Lib.hid E2
      replace E3 := Lib.hid E3
      replace E4 := Lib.hid E4
      replace hwF := Lib.hid hwF
      obtain ⟨⟨y0, y1, y2, y3⟩, v0, v1, v2, v3⟩ := four_cells F1
      obtain ⟨⟨m0, m1, m2, m3, m4⟩, o0, o1, o2, o3, o4⟩ := five_cells F2
      have hlz : b + 2 < w10.heap.size := (Array.getElem?_eq_some_iff.1 F2).1
      have hlz' : b + 1 < w10.heap.size := by omega
      clear k0 k1 k2 k3 f0 f1' f2 f3 F1 F2 L10 g10 K0 K1 K2 KL KG hw
      go_wp2_with fail
      rw [Hr.out]
      rw [show ((((((((w10.setCell ⟨b + 1, 0, none⟩ (.slice x.a x.ts.length x.c)).setCell ⟨b + 1, 1, none⟩ (.int .i64 (q4.i : Int))).setCell ⟨b + 1, 2, none⟩ (.int .i64 (q4.d : Int))).setCell ⟨b + 1, 3, none⟩ (.int .i64 q4.e)).setCell ⟨b + 1 + 1, 0, none⟩ (.int .i64 13)).setCell ⟨b + 1 + 1, 1, none⟩ (.string e0)).setCell ⟨b + 1 + 1, 2, none⟩ (.int .i64 0)).setCell ⟨b + 1 + 1, 3, none⟩ (nl)).setCell ⟨b + 1 + 1, 4, none⟩ (.slice ua ul uc) = wF from hwF.out]
      clear y0 y1 y2 y3 v0 v1 v2 v3 m0 m1 m2 m3 m4 o0 o1 o2 o3 o4
      have E1' := E1.out
      have E2' : wF.heap[b + 1 + 1]? = some (.cells #[.int .i64 13, .string e0, .int .i64 0, nl, .slice ua ul uc] 30 (0, 0)) := E2.out
      obtain ⟨⟨t0, t1, t2, t3⟩, _⟩ := four_cells E1'
      obtain ⟨⟨s0, s1, s2, s3, s4⟩, _⟩ := five_cells E2'
      refine bodyPost_ret (v := .tuple #[stv x q4, trv (13) (e0) (0) (nl) (.slice ua ul uc)]) (by simp [results, Tryz.results92, go_sem, t0, t1, t2, t3, s0, s1, s2, s3, s4]) rfl ⟨13, e0, 0, none, 0, 0, ua, ul, uc, rfl, E3.out, hF.out, E4.out⟩
end Go.Proofs.YtggkjkkbkpnkiaaGreatDoor
