/-
  The reference's clauses.
-/
import Derived.Test.YtggkjkkbkpnkiaaGreatDoorRA
import Derived.Test.YtggkjkkbkpnkiaaGreatDoorGK
import Derived.Test.YtggkjkkbkpnkiaaGreatDoorGM
set_option linter.unusedVariables false
set_option linter.unusedSimpArgs false
namespace Go.Proofs.YtggkjkkbkpnkiaaGreatDoor
open Go.RowKit Go.Maps
variable {x : Kx} {W W' : World} {p p' : Ps}
theorem clause_stuck {ts : List Tn} {ex un : Rule} (hse : Stuck ex) (hsu : Stuck un) : Stuck (clauseV ts ex un) := fun p h => by
  show (arrowV ts ex (un p).2).2 = p
  rw [hsu p h, arrowV_err hse p h]
theorem LrE.sw {base : Nat} {P : Nat → Prop} {l l2 : List Tr} {v : Value} {q : Ps} (h : LrE base P W l v q) (he : q.e = 0 → l2 = l) : LrE base P W l2 v q := by
  obtain ⟨h0, m, xs, h1, h2, hp, h3⟩ := h
  exact ⟨h0, m, xs, h1, h2, hp, fun e => by rw [he e]; exact h3 e⟩
theorem LrE.bad {base : Nat} {P : Nat → Prop} {l : List Tr} {q : Ps} (hb : base ≤ W.heap.size) (he : q.e ≠ 0) : LrE base P W l nl q := ⟨hb, 0, [], World.ownsRow_nil _ _ _ _, ⟨Nat.zero_le _, fun u h => by cases h⟩, (fun k h => by cases h), fun e => absurd e he⟩
/-- Clauses from a place on. -/
def GV (ts : List Tn) (g : Rule) : Bool → Nat → List Tr → Ps → List Tr × Ps
  | true, _, l, q => sevL ts sem g ts.length (l ++ [(g q).1]) (g q).2
  | false, f, l, q => sevL ts sem g f l q
theorem GV_stop {ts : List Tn} {g : Rule} (hg : Stuck g) (fs : Bool) (f : Nat) (l : List Tr) (q : Ps) (h : q.e ≠ 0) : (GV ts g fs f l q).2 = q := by
  cases fs with
  | true =>
    show (sevL ts sem g ts.length (l ++ [(g q).1]) (g q).2).2 = q
    rw [hg q h, sevL_err h]
  | false =>
    show (sevL ts sem g f l q).2 = q
    rw [sevL_err h]
theorem cls_x {w6 X : World} {b yb : Nat} {q3 : Ps} {T U : Tr} {K pk pn bk bn : Int} {ps bs : ByteArray} {u1 u2 v1 v2 : Value} {A : Nat → Prop} {y0 y1 y2 y3 : Value} (h0 : w6.heap[b]? = some (.cells #[y0, y1, y2, y3] 45 (0, 0)))
    (hX : (((set4 (set4 w6 yb (.slice x.a x.ts.length x.c) (.int .i64 (q3.i : Int)) (.int .i64 (q3.d : Int)) (.int .i64 q3.e)) b (.slice x.a x.ts.length x.c) (.int .i64 (q3.i : Int)) (.int .i64 (q3.d : Int)) (.int .i64 q3.e)).alloc (.cells #[.int .i64 bk, .string bs, .int .i64 bn, v1, v2] 30)).alloc (.cells #[.int .i64 pk, .string ps, .int .i64 pn, u1, u2, .int .i64 bk, .string bs, .int .i64 bn, v1, v2] 30)).alloc (.cells #[.int .i64 K, .string e0, .int .i64 0, nl, .slice (some ⟨w6.heap.size + 1, 0, none⟩) 2 2] 30) = X)
    (hby : b ≠ yb) (hA : ∀ z, A z → z ≠ b ∧ z ≠ yb) (hA1 : A (w6.heap.size + 1)) (hT : q3.e = 0 → Rep A w6 T (trv pk ps pn u1 u2)) (hU : q3.e = 0 → Rep A w6 U (trv bk bs bn v1 v2)) :
    Gr (fun k => k = b ∨ k = yb) w6 X ∧ X.heap[b]? = some (stb x q3) ∧ X.heap.size = w6.heap.size + 3 ∧ (∀ j u, [.int .i64 K, .string e0, .int .i64 0, nl, .slice (some ⟨w6.heap.size + 1, 0, none⟩) 2 2][j]? = some u → X.cell? ((⟨w6.heap.size + 1 + 1, 0, none⟩ : Addr).add j) = some u) ∧
      (q3.e = 0 → Rep A X (.mk K e0 0 [] [T, U]) (trv K e0 0 nl (.slice (some ⟨w6.heap.size + 1, 0, none⟩) 2 2))) := by
  have g1 := set4_gr w6 yb (.slice x.a x.ts.length x.c) (.int .i64 (q3.i : Int)) (.int .i64 (q3.d : Int)) (.int .i64 q3.e)
  have k1 := g1.keep h0 hby
  have z1 : (set4 w6 yb (.slice x.a x.ts.length x.c) (.int .i64 (q3.i : Int)) (.int .i64 (q3.d : Int)) (.int .i64 q3.e)).heap.size = w6.heap.size := by simp
  generalize set4 w6 yb _ _ _ _ = wa at g1 k1 z1 hX
  have g2 := set4_gr wa b (.slice x.a x.ts.length x.c) (.int .i64 (q3.i : Int)) (.int .i64 (q3.d : Int)) (.int .i64 q3.e)
  have k2 := set4_heap k1 (.slice x.a x.ts.length x.c) (.int .i64 (q3.i : Int)) (.int .i64 (q3.d : Int)) (.int .i64 q3.e)
  have z2 : (set4 wa b (.slice x.a x.ts.length x.c) (.int .i64 (q3.i : Int)) (.int .i64 (q3.d : Int)) (.int .i64 q3.e)).heap.size = w6.heap.size := by simp [z1]
  generalize set4 wa b _ _ _ _ = wb at g2 k2 z2 hX
  have g3 := Gr.alloc wb (.cells #[.int .i64 bk, .string bs, .int .i64 bn, v1, v2] 30) (fun _ => False)
  have z3 : (wb.alloc (.cells #[.int .i64 bk, .string bs, .int .i64 bn, v1, v2] 30)).heap.size = w6.heap.size + 1 := by simp [z2]
  have k3 := g3.keep k2 (fun e => e)
  have gab : Gr (fun k => k = b ∨ k = yb) w6 (wb.alloc (.cells #[.int .i64 bk, .string bs, .int .i64 bn, v1, v2] 30)) := ((g1.mono (fun _ _ e => .inr e)).trans (g2.mono (fun _ _ e => .inl e))).trans (g3.any _)
  have hTn : Turn A A w6 (wb.alloc (.cells #[.int .i64 bk, .string bs, .int .i64 bn, v1, v2] 30)) := fun z hz hl => ⟨hz, gab.block z hl (fun e => by have := hA z hz; omega)⟩
  have rT : q3.e = 0 → Rep A _ T (trv pk ps pn u1 u2) := fun e => (hT e).turn hTn
  have rU : q3.e = 0 → Rep A _ U (trv bk bs bn v1 v2) := fun e => (hU e).turn hTn
  generalize wb.alloc (.cells #[.int .i64 bk, .string bs, .int .i64 bn, v1, v2] 30) = wc at gab k3 z3 rT rU hX
  have rN : q3.e = 0 → Rep A (wc.alloc (.cells #[.int .i64 pk, .string ps, .int .i64 pn, u1, u2, .int .i64 bk, .string bs, .int .i64 bn, v1, v2] 30)) (.mk K e0 0 [] [T, U]) (trv K e0 0 nl (.slice (some ⟨w6.heap.size + 1, 0, none⟩) 2 2)) := fun e => by
    have := node2_rep K e0 (rT e) (rU e) (by rw [z3]; exact hA1)
    rw [z3] at this
    exact this
  have g4 := Gr.alloc wc (.cells #[.int .i64 pk, .string ps, .int .i64 pn, u1, u2, .int .i64 bk, .string bs, .int .i64 bn, v1, v2] 30) (fun _ => False)
  have z4 : (wc.alloc (.cells #[.int .i64 pk, .string ps, .int .i64 pn, u1, u2, .int .i64 bk, .string bs, .int .i64 bn, v1, v2] 30)).heap.size = w6.heap.size + 1 + 1 := by simp [z3]
  have k4 := g4.keep k3 (fun e => e)
  generalize wc.alloc _ = wd at g4 z4 k4 rN hX
  have hc := cell_five_new wd (.int .i64 K) (.string e0) (.int .i64 0) nl (.slice (some ⟨w6.heap.size + 1, 0, none⟩) 2 2) 30
  rw [z4] at hc
  have g5 := Gr.alloc wd (.cells #[.int .i64 K, .string e0, .int .i64 0, nl, .slice (some ⟨w6.heap.size + 1, 0, none⟩) 2 2] 30) (fun _ => False)
  subst hX
  exact ⟨(gab.trans (g4.any _)).trans (g5.any _), g5.keep k4 (fun e => e), by simp [z4], hc, fun e => (rN e).turn (fun z hz hl => ⟨hz, g5.block z hl (fun e => e)⟩)⟩
theorem want_adv (ts : List Tn) (s : ByteArray) (p : Ps) (h : (wantV ts s p).e = 0) : (wantV ts s p).i = p.i + 1 := by
  unfold wantV at h ⊢
  by_cases hs : isV ts p s = true
  · rw [if_pos hs]; rfl
  · rw [if_neg hs] at h
    exfalso
    unfold failV at h
    by_cases he : p.e = 0
    · rw [if_pos he] at h; exact absurd (show (160 : Int) = 0 from h) (by decide)
    · rw [if_neg he] at h; exact he h
set_option maxRecDepth 100000 in
set_option maxHeartbeats 1600000 in
theorem rclauses_c (d : Nat) (ex un : Rule) (hex : ROk x 39 d ex) (hun : ROk x 74 d un) (hse : Stuck ex) (hsu : Stuck un) (h : Rz x W p) (hd : p.d = d) : Calls Tryz.prog 102 #[stv x p] W fun e w' => EndLX x W.heap.size W p e w' (sevV x.ts sem (clauseV x.ts ex un) p) := by
  obtain ⟨r, hr⟩ : ∃ r, r = sevV x.ts sem (clauseV x.ts ex un) p := ⟨_, rfl⟩
  rw [← hr]
  have Hr : Hid (r = GV x.ts (clauseV x.ts ex un) true 0 [] p) := hr
  clear hr
  obtain ⟨i0, hi0, hz0, hz1, hz2⟩ := info_parts info25
  have g0 := G2 W (stb x p) zs
  have b0 : ((W.alloc (stb x p)).alloc zs).heap[W.heap.size]? = some (stb x p) := (Gr.alloc _ _ (fun _ => False)).keep (heap_alloc_new W _) (fun e => e)
  have b1 : ((W.alloc (stb x p)).alloc zs).heap[W.heap.size + 1]? = some zs := by
    have := heap_alloc_new (W.alloc (stb x p)) zs
    simpa using this
  have hzz : ((W.alloc (stb x p)).alloc zs).heap.size = W.heap.size + 2 := by simp
  obtain ⟨b, hb⟩ : ∃ b, W.heap.size = b := ⟨_, rfl⟩
  have Hd := Lib.hid hd
  have hbW := Lib.hid hb
  have hNb : Hid (x.N ≤ b) := by have := h.hN; show _ ≤ _; omega
  have hRm := Lib.hid h.hm
  have R0 := h.g0 g0
  clear hd
  go_enter Tryz.func102, Tryz.ntmps102
  go_wp2_with fail
  generalize (W.alloc _).alloc _ = W1 at g0 b0 b1 hzz R0 ⊢
  rw [hb] at b0 b1 hzz
  have HL : Hid (LrE (b + 2) (fun z => b + 2 ≤ z) W1 [] nl p) := LrE.nil (by omega)
  have hi0' := Lib.hid h.hi
  clear hb h
  go_loopw [4, 5] (fun u v wr => ∃ (fs : Bool) (l' : List Tr) (q : Ps) (f : Nat), v = .bool fs ∧ Hid (x.ts.length ≤ f + q.i) ∧ Hid (r = GV x.ts (clauseV x.ts ex un) fs f l' q) ∧ Hid (LrE (b + 2) (fun z => b + 2 ≤ z) wr l' u q) ∧ Rz x wr q ∧ wr.heap[b]? = some (stb x q) ∧ wr.heap[b + 1]? = some zs ∧ Hid (q.d = p.d ∧ p.i ≤ q.i ∧ q.i ≤ x.ts.length) ∧ Hid (Gr (fun k => b ≤ k) W wr)) (fun u v wr => x.ts.length - atP wr b)
  case atStart => exact ⟨true, [], p, x.ts.length, rfl, by show _ ≤ _; omega, Hr, HL, R0, b0, b1, ⟨rfl, Nat.le_refl _, hi0'.out⟩, g0.any _⟩
  case round =>
    obtain ⟨fs, l', q, f, rfl, hf, Hq, KL, hR, B0, B1, hq, KG⟩ := hrel
    have K0 := Lib.hid B0
    have K1 := Lib.hid B1
    have KR := Lib.hid hR
    obtain ⟨ua, ul, uc, rfl⟩ := KL.out.sv
    obtain ⟨⟨c0, c1, c2, c3⟩, f0, f1', f2, f3⟩ := four_cells B0
    have hbl : b + 1 < wr.heap.size := (Array.getElem?_eq_some_iff.1 B1).1
    have hbl' : b < wr.heap.size := by omega
    have Hat : Hid (atP wr b = q.i) := by show _ = _; simp [atP, c1]
    have hqlen : Hid (q.i ≤ x.ts.length) := hq.out.2.2
    clear B0 B1 hR b0 b1 g0 R0 HL
    by_cases he : q.e = 0
    case neg =>
      have qe : (q.e == 0) = false := by simpa using he
      have Hx : Hid (r.2 = q ∧ (q.e = 0 → r.1 = l')) := ⟨by rw [Hq.out]; exact GV_stop (clause_stuck hse hsu) fs f l' q he, fun e => absurd e he⟩
      replace he := Lib.hid he
      clear Hq
      obtain ⟨rl, rq⟩ := r
      have hrq : rq = q := Hx.out.1
      subst hrq
      have hl2 : b + 1 < wr.heap.size := (Array.getElem?_eq_some_iff.1 K1.out).1
      have hl2' : b < wr.heap.size := by omega
      have gs := set4_gr wr (b + 1) (.slice x.a x.ts.length x.c) (.int .i64 (rq.i : Int)) (.int .i64 (rq.d : Int)) (.int .i64 rq.e)
      have hf4 := set4_heap K1.out (.slice x.a x.ts.length x.c) (.int .i64 (rq.i : Int)) (.int .i64 (rq.d : Int)) (.int .i64 rq.e)
      have L3 := Lib.hid ((((KL.out.sw Hx.out.2).gr gs (fun k hk e => by have hk' : b + 2 ≤ k := hk; omega)).imp (P' := fun z => b ≤ z) (fun k _ hk => by have hk' : b + 2 ≤ k := hk; omega)).mono (base' := b) (by omega))
      have G3 := Lib.hid (KG.out.trans' gs (fun k hk e => by show b ≤ k; omega))
      obtain ⟨⟨c0, c1, c2, c3⟩, f0, f1, f2, f3⟩ := four_cells K0.out
      obtain ⟨⟨y0, y1, y2, y3⟩, v0, v1, v2, v3⟩ := four_cells K1.out
      obtain ⟨⟨t0, t1, t2, t3⟩, _⟩ := four_cells hf4
      obtain ⟨wF, hwF⟩ : ∃ wF, set4 wr (b + 1) (.slice x.a x.ts.length x.c) (.int .i64 (rq.i : Int)) (.int .i64 (rq.d : Int)) (.int .i64 rq.e) = wF := ⟨_, rfl⟩
      rw [hwF] at L3 G3 t0 t1 t2 t3
      replace t0 := Lib.hid t0
      replace t1 := Lib.hid t1
      replace t2 := Lib.hid t2
      replace t3 := Lib.hid t3
      replace hwF := Lib.hid hwF
      clear hf4 gs KL KG
      go_wp2_with fail
      rw [show (((wr.setCell ⟨b + 1, 0, none⟩ (.slice x.a x.ts.length x.c)).setCell ⟨b + 1, 1, none⟩ (.int .i64 (rq.i : Int))).setCell ⟨b + 1, 2, none⟩ (.int .i64 (rq.d : Int))).setCell ⟨b + 1, 3, none⟩ (.int .i64 rq.e) = wF from hwF.out]
      refine bodyPost_ret (v := .tuple #[stv x rq, .slice ua ul uc]) (by simp [results, Tryz.results102, go_sem, t0.out, t1.out, t2.out, t3.out]) rfl ⟨_, rfl, ?_, hq.out, ?_⟩
      · rw [hbW.out]; exact L3.out
      · rw [hbW.out]; exact G3.out
    case pos =>
      have qe : (q.e == 0) = true := by simp [he]
      have hqe := Lib.hid he
      clear he
      cases fs with
      | true =>
        obtain ⟨fu, hf10⟩ : ∃ fu, fu = x.ts.length := ⟨_, rfl⟩
        have Hq2 : Hid (r = sevL x.ts sem (clauseV x.ts ex un) fu (l' ++ [.mk 15 e0 0 [] [(un q).1, (bodyV x.ts ex (wantV x.ts arw (un q).2)).1]]) (bodyV x.ts ex (wantV x.ts arw (un q).2)).2) := by
          show r = _
          rw [Hq.out, hf10]
          rfl
        have hf1 : Hid (x.ts.length ≤ fu) := by show _ ≤ _; omega
        have hPS : Hid (q.d = p.d ∧ p.i ≤ q.i ∧ q.i ≤ q.i ∧ q.i ≤ x.ts.length) := ⟨hq.out.1, hq.out.2.1, Nat.le_refl _, hq.out.2.2⟩
        have hcall := Lib.hid (hun wr q KR.out (by have := hq.out; have := Hd.out; omega))
        clear Hq hf hf10
        go_wp2_with fail
        refine hcall.out.mono ?_
        rintro e w4 ⟨pk, ps, pn, a1, n1, c1', a2, n2, c2', rfl, rep4, hi4, g4⟩
        generalize (un q).2 = q1 at Hq2 rep4 hi4 ⊢
        generalize (un q).1 = T at Hq2 rep4 ⊢
        have D0 := Lib.hid (g4.keep K0.out (fun e => e))
        have D1 := Lib.hid (g4.keep K1.out (fun e => e))
        have L4 : Hid (LrE (b + 2) (fun z => b + 2 ≤ z ∧ z < w4.heap.size) w4 l' (.slice ua ul uc) q) := (KL.out.gr g4 (fun _ _ e => e)).imp (P' := fun z => b + 2 ≤ z ∧ z < w4.heap.size) (fun k hk h => ⟨h, hk⟩)
        have hown : Hid (∀ k, (Value.slice ua ul uc).ownBlock = some k → k < wr.heap.size) := by
          obtain ⟨_, _, _, hr3, _⟩ := KL.out
          exact fun k hk => (ownsRow_lt hr3 k hk).2
        have G4 := Lib.hid (KG.out.trans (g4.any _))
        have Hi4 := Lib.hid hi4
        have hsq : Hid (b + 2 ≤ wr.heap.size) := by have := (Array.getElem?_eq_some_iff.1 K1.out).1; show _ ≤ _; omega
        have hs4 : Hid (wr.heap.size ≤ w4.heap.size) := g4.size
        have gy := G2 w4 (stb x q1) (.cells #[.int .i64 pk, .string ps, .int .i64 pn, .slice a1 n1 c1', .slice a2 n2 c2'] 30)
        have R5 : Rz x ((w4.alloc (stb x q1)).alloc (.cells #[.int .i64 pk, .string ps, .int .i64 pn, .slice a1 n1 c1', .slice a2 n2 c2'] 30)) q1 := ((KR.out.g0 g4).g0 gy).to hi4.2.2 (by have := KR.out.hd; have := hi4.1; omega)
        have EY : ((w4.alloc (stb x q1)).alloc (.cells #[.int .i64 pk, .string ps, .int .i64 pn, .slice a1 n1 c1', .slice a2 n2 c2'] 30)).heap[w4.heap.size]? = some (stb x q1) := (Gr.alloc _ _ (fun _ => False)).keep (heap_alloc_new w4 _) (fun e => e)
        have EP : ((w4.alloc (stb x q1)).alloc (.cells #[.int .i64 pk, .string ps, .int .i64 pn, .slice a1 n1 c1', .slice a2 n2 c2'] 30)).heap[w4.heap.size + 1]? = some (.cells #[.int .i64 pk, .string ps, .int .i64 pn, .slice a1 n1 c1', .slice a2 n2 c2'] 30 (0, 0)) := by
          have := heap_alloc_new (w4.alloc (stb x q1)) (.cells #[.int .i64 pk, .string ps, .int .i64 pn, .slice a1 n1 c1', .slice a2 n2 c2'] 30)
          simpa using this
        have hwi := Lib.hid (wantV_i x.ts arw q1 hi4.2.2)
        have hadv := Lib.hid (want_adv x.ts arw q1)
        have hw := Lib.hid (rwant_c R5 arw)
        have HR5 := Lib.hid R5
        have Hgy := Lib.hid gy
        have Hrep4 : Hid (q1.e = 0 → Rep (fun z => wr.heap.size ≤ z) w4 T (trv pk ps pn (.slice a1 n1 c1') (.slice a2 n2 c2'))) := rep4
        generalize wantV x.ts arw q1 = q2 at Hq2 hw hwi hadv ⊢
        clear K0 K1 KL KG KR rep4 hi4 g4 gy R5 c0 c1 c2 c3 f0 f1' f2 f3
        go_wp2_with fail
        generalize (w4.alloc (stb x q1)).alloc _ = w5 at EY EP hw HR5 Hgy ⊢
        obtain ⟨yb, hyb⟩ : ∃ yb, w4.heap.size = yb := ⟨_, rfl⟩
        have hyb0 : Hid (b + 2 ≤ yb) := by have := hsq.out; have := hs4.out; show _ ≤ _; omega
        rw [hyb] at EY EP L4 ⊢
        refine hw.out.mono ?_
        rintro e w6 ⟨rfl, g6⟩
        have F0 := Lib.hid (g6.keep (Hgy.out.keep D0.out (fun e => e)) (fun e => e))
        have F1 := Lib.hid (g6.keep (Hgy.out.keep D1.out (fun e => e)) (fun e => e))
        have FY := Lib.hid (g6.keep EY (fun e => e))
        have FP := Lib.hid (g6.keep EP (fun e => e))
        have L6 := Lib.hid ((L4.out.gr Hgy.out (fun _ _ e => e)).gr g6 (fun _ _ e => e))
        have G6 := Lib.hid ((G4.out.trans (Hgy.out.any _)).trans (g6.any _))
        have R6 := Lib.hid ((HR5.out.g0 g6).to (p' := q2) hwi.out.2.2.1 (by have := hwi.out.1; have := HR5.out.hd; omega))
        have rep6 : Hid (q2.e = 0 → Rep (fun z => wr.heap.size ≤ z ∧ z < yb) w6 T (trv pk ps pn (.slice a1 n1 c1') (.slice a2 n2 c2'))) := fun e => (Hrep4.out (hwi.out.2.2.2 e)).turn (fun z hz hl => ⟨⟨hz, by omega⟩, (g6.block z (Nat.lt_of_lt_of_le hl Hgy.out.size) (fun e => e)).trans (Hgy.out.block z hl (fun e => e))⟩)
        obtain ⟨⟨z0, z1, z2, z3⟩, w0', w1', w2', w3'⟩ := four_cells FY.out
        have hly : yb < w6.heap.size := (Array.getElem?_eq_some_iff.1 FY.out).1
        have hlp : yb + 1 < w6.heap.size := (Array.getElem?_eq_some_iff.1 FP.out).1
        have hlb : b < w6.heap.size := by have := hyb0.out; omega
        have hlb1 : b + 1 < w6.heap.size := by have := hyb0.out; omega
        clear D0 D1 L4 G4 EY EP hw HR5 Hgy g6 Hrep4
        by_cases h2e : q2.e = 0
        case neg =>
          have hn5 : yb ≠ b + 1 := by have := hyb0.out; omega
          have hn6 : b + 1 ≠ yb := by have := hyb0.out; omega
          have qn : (q2.e != 0) = true := by rw [bne_iff_ne]; exact h2e
          have qn' : (q2.e == 0) = false := by simpa using h2e
          have Hr2 : Hid (r.2 = q2) := by
            show r.2 = q2
            rw [Hq2.out]
            have e1 : (bodyV x.ts ex q2).2 = q2 := sevV_err hse h2e cma
            rw [e1, sevL_err h2e]
          have gs1 := set4_gr w6 yb (.slice x.a x.ts.length x.c) (.int .i64 (q2.i : Int)) (.int .i64 (q2.d : Int)) (.int .i64 q2.e)
          have S1 := gs1.keep F1.out (by have := hyb0.out; omega)
          obtain ⟨w7, hw7⟩ : ∃ w7, set4 w6 yb (.slice x.a x.ts.length x.c) (.int .i64 (q2.i : Int)) (.int .i64 (q2.d : Int)) (.int .i64 q2.e) = w7 := ⟨_, rfl⟩
          rw [hw7] at gs1 S1
          have gs := set4_gr w7 (b + 1) (.slice x.a x.ts.length x.c) (.int .i64 (q2.i : Int)) (.int .i64 (q2.d : Int)) (.int .i64 q2.e)
          have hf4 := set4_heap S1 (.slice x.a x.ts.length x.c) (.int .i64 (q2.i : Int)) (.int .i64 (q2.d : Int)) (.int .i64 q2.e)
          have G3 := Lib.hid ((G6.out.trans' gs1 (fun k hk e => by have := hyb0.out; show b ≤ k; omega)).trans' gs (fun k hk e => by show b ≤ k; omega))
          obtain ⟨⟨t0, t1, t2, t3⟩, _⟩ := four_cells hf4
          obtain ⟨wF, hwF⟩ : ∃ wF, set4 w7 (b + 1) (.slice x.a x.ts.length x.c) (.int .i64 (q2.i : Int)) (.int .i64 (q2.d : Int)) (.int .i64 q2.e) = wF := ⟨_, rfl⟩
          rw [hwF] at G3 t0 t1 t2 t3
          have hFz : Hid (b ≤ wF.heap.size) := by have h7 := G3.out.size; have h8 := hbW.out; show b ≤ wF.heap.size; omega
          replace t0 := Lib.hid t0
          replace t1 := Lib.hid t1
          replace t2 := Lib.hid t2
          replace t3 := Lib.hid t3
          replace hwF := Lib.hid hwF
          replace hw7 := Lib.hid hw7
          obtain ⟨⟨y0, y1, y2, y3⟩, v0, v1, v2, v3⟩ := four_cells F1.out
          have Hh2 := Lib.hid h2e
          clear hf4 gs gs1 S1 L6 G6 R6 F0 FP h2e
          go_wp2_with fail
          rw [show (((w6.setCell ⟨yb, 0, none⟩ (.slice x.a x.ts.length x.c)).setCell ⟨yb, 1, none⟩ (.int .i64 (q2.i : Int))).setCell ⟨yb, 2, none⟩ (.int .i64 (q2.d : Int))).setCell ⟨yb, 3, none⟩ (.int .i64 q2.e) = w7 from hw7.out]
          rw [show (((w7.setCell ⟨b + 1, 0, none⟩ (.slice x.a x.ts.length x.c)).setCell ⟨b + 1, 1, none⟩ (.int .i64 (q2.i : Int))).setCell ⟨b + 1, 2, none⟩ (.int .i64 (q2.d : Int))).setCell ⟨b + 1, 3, none⟩ (.int .i64 q2.e) = wF from hwF.out]
          obtain ⟨rl, rq⟩ := r
          have hrq : rq = q2 := Hr2.out
          subst hrq
          have h9 := hwi.out
          have h10 := Hi4.out
          have h11 := hPS.out
          refine bodyPost_ret (v := .tuple #[stv x rq, nl]) (by simp [results, Tryz.results102, go_sem, t0.out, t1.out, t2.out, t3.out]) rfl ⟨nl, rfl, ?_, ⟨by show rq.d = p.d; omega, by show p.i ≤ rq.i; omega, h9.2.2.1⟩, ?_⟩
          · rw [hbW.out]; exact LrE.bad hFz.out Hh2.out
          · rw [hbW.out]; exact G3.out
        case pos =>
          have qn : (q2.e != 0) = false := by simp [h2e]
          have qn' : (q2.e == 0) = true := by simp [h2e]
          have hi2 : Hid (q2.i = q1.i + 1) := hadv.out h2e
          have Hh2 := Lib.hid h2e
          have gs1 : Gr (fun k => k = yb) w6 ((((w6.setCell ⟨yb, 0, none⟩ (.slice x.a x.ts.length x.c)).setCell ⟨yb, 1, none⟩ (.int .i64 (q2.i : Int))).setCell ⟨yb, 2, none⟩ (.int .i64 (q2.d : Int))).setCell ⟨yb, 3, none⟩ (.int .i64 q2.e)) := set4_gr w6 yb (.slice x.a x.ts.length x.c) (.int .i64 (q2.i : Int)) (.int .i64 (q2.d : Int)) (.int .i64 q2.e)
          have hby0 := hyb0.out
          have S0 := Lib.hid (gs1.keep F0.out (by omega))
          have S1 := Lib.hid (gs1.keep F1.out (by omega))
          have SP := Lib.hid (gs1.keep FP.out (by omega))
          have SY : Hid (((((w6.setCell ⟨yb, 0, none⟩ (.slice x.a x.ts.length x.c)).setCell ⟨yb, 1, none⟩ (.int .i64 (q2.i : Int))).setCell ⟨yb, 2, none⟩ (.int .i64 (q2.d : Int))).setCell ⟨yb, 3, none⟩ (.int .i64 q2.e)).heap[yb]? = some (stb x q2)) := set4_heap FY.out (.slice x.a x.ts.length x.c) (.int .i64 (q2.i : Int)) (.int .i64 (q2.d : Int)) (.int .i64 q2.e)
          have RS := Lib.hid (R6.out.gr gs1 (fun k hk e => by have := hNb.out; omega))
          have LS := Lib.hid (L6.out.gr gs1 (fun k hk e => by have h8 : b + 2 ≤ k ∧ k < yb := hk; omega))
          have GS := Lib.hid (G6.out.trans' gs1 (fun k hk e => by show b ≤ k; omega))
          have rep7 : Hid (Rep (fun z => wr.heap.size ≤ z ∧ z < yb) ((((w6.setCell ⟨yb, 0, none⟩ (.slice x.a x.ts.length x.c)).setCell ⟨yb, 1, none⟩ (.int .i64 (q2.i : Int))).setCell ⟨yb, 2, none⟩ (.int .i64 (q2.d : Int))).setCell ⟨yb, 3, none⟩ (.int .i64 q2.e)) T (trv pk ps pn (.slice a1 n1 c1') (.slice a2 n2 c2'))) := (rep6.out h2e).turn (fun z hz hl => ⟨hz, gs1.block z hl (by omega)⟩)
          have hcall8 := Lib.hid (rbody_c d ex hex _ q2 RS.out (by have := hwi.out; have := Hi4.out; have := hPS.out; have := Hd.out; omega))
          have hz7 := Lib.hid gs1.size
          have hz6 : Hid (yb + 2 ≤ w6.heap.size) := hlp
          clear L6 G6 R6 F0 F1 FP FY h2e rep6 gs1 hby0
          go_wp2_with fail
          generalize (((w6.setCell ⟨yb, 0, none⟩ (.slice x.a x.ts.length x.c)).setCell ⟨yb, 1, none⟩ (.int .i64 (q2.i : Int))).setCell ⟨yb, 2, none⟩ (.int .i64 (q2.d : Int))).setCell ⟨yb, 3, none⟩ (.int .i64 q2.e) = w7 at S0 S1 SP SY RS LS GS rep7 hcall8 hz7 ⊢
          refine hcall8.out.mono ?_
          rintro e w8 ⟨bk, bs, bn, b1, m1, d1, b2, m2, d2, rfl, rep8, hi8, g8⟩
          generalize (bodyV x.ts ex q2).2 = q3 at Hq2 rep8 hi8 ⊢
          generalize (bodyV x.ts ex q2).1 = U at Hq2 rep8 ⊢
          have T0 := Lib.hid (g8.keep S0.out (fun e => e))
          have T1 := Lib.hid (g8.keep S1.out (fun e => e))
          have TP := Lib.hid (g8.keep SP.out (fun e => e))
          have TY := Lib.hid (g8.keep SY.out (fun e => e))
          have LT := Lib.hid (LS.out.gr g8 (fun _ _ e => e))
          have GT := Lib.hid (GS.out.trans (g8.any _))
          have Hi8 := Lib.hid hi8
          have RT := Lib.hid ((RS.out.g0 g8).to (p' := q3) hi8.2.2 (by have := hi8.1; have := RS.out.hd; omega))
          have hz8 : Hid (yb + 2 ≤ w8.heap.size) := by have := g8.size; have := hz7.out; have := hz6.out; show _ ≤ _; omega
          have rT : Hid (q3.e = 0 → Rep (fun z => (b + 2 ≤ z ∧ z ≠ yb) ∧ (Value.slice ua ul uc).ownBlock ≠ some z) w8 T (trv pk ps pn (.slice a1 n1 c1') (.slice a2 n2 c2'))) := fun _ => rep7.out.turn (fun z hz hl => ⟨⟨⟨by have := hsq.out; omega, by omega⟩, fun e => by have := hown.out z e; omega⟩, g8.block z hl (fun e => e)⟩)
          have rU : Hid (q3.e = 0 → Rep (fun z => (b + 2 ≤ z ∧ z ≠ yb) ∧ (Value.slice ua ul uc).ownBlock ≠ some z) w8 U (trv bk bs bn (.slice b1 m1 d1) (.slice b2 m2 d2))) := fun e => (rep8 e).turn (fun z hz hl => by
            have h7 : w7.heap.size ≤ z := hz
            have h8 := hz7.out
            have h9 := hz6.out
            have h10 := hyb0.out
            have h11 := hs4.out
            refine ⟨⟨⟨by omega, by omega⟩, fun e => ?_⟩, rfl⟩
            have := hown.out z e
            omega)
          have hA1 : Hid ((b + 2 ≤ w8.heap.size + 1 ∧ w8.heap.size + 1 ≠ yb) ∧ (Value.slice ua ul uc).ownBlock ≠ some (w8.heap.size + 1)) := by
            have h8 := hz8.out
            have h10 := hyb0.out
            have h11 := hs4.out
            refine ⟨⟨by omega, by omega⟩, fun e => ?_⟩
            have := hown.out _ e
            omega
          obtain ⟨⟨x0, x1, x2, x3⟩, w0', w1', w2', w3'⟩ := four_cells TY.out
          obtain ⟨⟨m0, m1', m2', m3, m4⟩, o0, o1, o2, o3, o4⟩ := five_cells TP.out
          obtain ⟨⟨j0, j1, j2, j3⟩, r0', r1', r2', r3'⟩ := four_cells T0.out
          have hly : yb < w8.heap.size := by have := hz8.out; omega
          have hlp : yb + 1 < w8.heap.size := by have := hz8.out; omega
          have hlb : b < w8.heap.size := by have := hz8.out; have := hyb0.out; omega
          have hn1 : yb ≠ b := by have := hyb0.out; omega
          have hn2 : yb + 1 ≠ b := by have := hyb0.out; omega
          have hn3 : b ≠ yb := by have := hyb0.out; omega
          have hn4 : b ≠ yb + 1 := by have := hyb0.out; omega
          have hmq : Hid (ul ≤ q.i + 1) := by
            obtain ⟨_, m, xs, hr3, hm3, _⟩ := LT.out
            obtain ⟨_, _, e⟩ := ownsRow_sv hr3
            cases e
            exact hm3.1
          clear S0 S1 SP SY RS LS GS rep7 hcall8 hz7 rep8 hi8 g8 z0 z1 z2 z3
          go_wp2_with (first
            | (at_builtin; generalize hX : World.alloc (World.alloc (World.alloc (World.setCell _ _ _) _) _) _ = X; obtain ⟨gX, X0, Xs, Xc, XN⟩ := cls_x (A := fun z => (b + 2 ≤ z ∧ z ≠ yb) ∧ (Value.slice ua ul uc).ownBlock ≠ some z) (T := T) (U := U) T0.out hX hn3 (fun z hz => ⟨by omega, by omega⟩) hA1.out rT.out rU.out; obtain ⟨hLb, m, xs, hrow, hm, hownX, hreps⟩ := (LT.out.gr gX (fun k hk e => by have h8 : b + 2 ≤ k ∧ k < yb := hk; omega)).imp (P' := fun z => b + 2 ≤ z) (fun k _ h => h.1); obtain ⟨_, _, hsv⟩ := ownsRow_sv hrow; have hul : ul = m := (by cases hsv; rfl); subst hul; clear hsv; have HXN := Lib.hid XN; have HrX := Lib.hid hreps; have HoX := Lib.hid hownX; clear XN hreps hownX; refine wpList_own2 _ rfl 28 _ _ rfl (b + 2) 30 i0 (trv 0 e0 0 nl nl) 5 80 Tryz.underlying28 hi0 hz0 hz1 hz2 rfl (by decide) (.slice ua ul uc) ul xs ⟨w8.heap.size + 1 + 1, 0, none⟩ 1 1 [.int .i64 15, .string e0, .int .i64 0, nl, .slice (some ⟨w8.heap.size + 1, 0, none⟩) 2 2] rfl rfl hrow rfl Xc (by simp [Value.oneCell']) (by unfold maxLen; have := hmq.out; have := hRm.out; have := hqlen.out; omega) (by have := hmq.out; have := hRm.out; have := hqlen.out; omega) (by omega) ?_; intro v' w9 hrow9 hgr9 hloc9; obtain ⟨a9, cap9, rfl⟩ := ownsRow_sv hrow9; clear hX)
            | fail)
          have Gg : Gr (fun k => (Value.slice ua ul uc).ownBlock = some k) X w9 := Gr.of_grown hgr9 (fun z e => e)
          have h3 := Hi4.out
          have h4 := hi2.out
          have h5 := Hi8.out
          have h6 := hPS.out
          have h7 := hwi.out
          have n2 : Hid (LrE (b + 2) (fun z => b + 2 ≤ z) w9 (l' ++ [.mk 15 e0 0 [] [T, U]]) (.slice a9 (ul + 1) cap9) q3) := by
            refine LrE.grown (q := q2) hLb hrow ⟨by have := hmq.out; omega, hm.2⟩ h5.2.1 HoX.out (fun z hz => by have h8 := hLb; show b + 2 ≤ z; omega) (fun _ => ?_) (fun _ => Hh2.out) (fun e => ?_) hgr9 hloc9 hrow9 ⟨rfl, rfl⟩
            · obtain ⟨e1, vs, e2, e3⟩ := HrX.out hqe.out
              exact ⟨e1, vs, e2, e3⟩
            · exact (HXN.out e).turn (fun z hz hl => ⟨⟨hz.1.1, hz.2⟩, rfl⟩)
          have n3 : Rz x w9 q3 := (RT.out.gr gX (fun k hk e => by have := hNb.out; have := hyb0.out; omega)).gr Gg (fun k hk e => by have h8 : b + 2 ≤ k := HoX.out k e; have := hNb.out; omega)
          have n4 : w9.heap[b]? = some (stb x q3) := Gg.keep X0 (fun e => by have h8 : b + 2 ≤ b := HoX.out b e; omega)
          have n5 : w9.heap[b + 1]? = some zs := Gg.keep (gX.keep T1.out (by have := hyb0.out; omega)) (fun e => by have h8 : b + 2 ≤ b + 1 := HoX.out _ e; omega)
          have n7 : Hid (Gr (fun k => b ≤ k) W w9) := (GT.out.trans' gX (fun k hk e => by have := hyb0.out; show b ≤ k; omega)).trans' Gg (fun k hk e => by have h8 : b + 2 ≤ k := HoX.out k e; show b ≤ k; omega)
          have n8 : x.ts.length - atP w9 b < x.ts.length - atP wr b := by
            have ea : atP w9 b = q3.i := by
              obtain ⟨⟨_, e1, _, _⟩, _⟩ := four_cells n4
              simp [atP, e1]
            rw [ea, Hat.out]
            omega
          exact ⟨⟨false, _, q3, fu, rfl, (by have := hf1.out; show _ ≤ _; omega), Hq2, n2, n3, n4, n5, ⟨by omega, by omega, by omega⟩, n7⟩, n8⟩
      | false =>
        have his := ris_c KR.out sem
        cases hs : isV x.ts q sem with
        | true =>
          obtain ⟨fu, rfl⟩ : ∃ f', f = f' + 1 := ⟨f - 1, by have := hf.out; have := (isV_lt' hs); omega⟩
          have Hq2 : Hid (r = sevL x.ts sem (clauseV x.ts ex un) fu (l' ++ [.mk 15 e0 0 [] [(un q.next).1, (bodyV x.ts ex (wantV x.ts arw (un q.next).2)).1]]) (bodyV x.ts ex (wantV x.ts arw (un q.next).2)).2) := by
            show r = _
            rw [Hq.out]
            show sevL x.ts sem (clauseV x.ts ex un) (fu + 1) l' q = _
            rw [sevL, if_pos hs]
            rfl
          have hlt := Lib.hid (isV_lt' hs)
          have hf1 : Hid (x.ts.length ≤ fu + (q.i + 1)) := by have := hf.out; show _ ≤ _; omega
          have hPS : Hid (q.next.d = p.d ∧ p.i ≤ q.next.i ∧ q.i ≤ q.next.i ∧ q.next.i ≤ x.ts.length) := by
            have h1 := hq.out
            have h2 := hlt.out
            exact ⟨h1.1, by show p.i ≤ q.i + 1; omega, by show q.i ≤ q.i + 1; omega, by show q.i + 1 ≤ _; omega⟩
          have hqI : (q.i : Int) ≤ 100000 := by have := hq.out; have := hRm.out; omega
          rw [hs] at his
          clear hs Hq hf
          go_wp2_with fail
          refine his.mono ?_
          rintro e w2 ⟨rfl, g2⟩
          have C0 := g2.keep K0.out (fun e => e)
          have C1 := g2.keep K1.out (fun e => e)
          have L2 := Lib.hid (KL.out.gr g2 (fun _ _ e => e))
          have R2 := KR.out.g0 g2
          have G2' := Lib.hid (KG.out.trans (g2.any _))
          clear c0 c1 c2 c3 f0 f1' f2 f3 his KL KG KR
          obtain ⟨⟨c0, c1, c2, c3⟩, f0, f1', f2, f3⟩ := four_cells C0
          have hl2 : b + 1 < w2.heap.size := (Array.getElem?_eq_some_iff.1 C1).1
          have hl2' : b < w2.heap.size := by omega
          have gs : Gr (fun k => k = b) w2 (w2.setCell ⟨b, 1, none⟩ (.int .i64 ((q.i : Int) + 1))) := Gr.set _ _ _ rfl
          have S0 : Hid ((w2.setCell ⟨b, 1, none⟩ (.int .i64 ((q.i : Int) + 1))).heap[b]? = some (stb x q.next)) := heap_setCell_same w2 b 1 _ 45 _ C0
          have S1 := Lib.hid (gs.keep C1 (by omega))
          have R3 : Hid (Rz x (w2.setCell ⟨b, 1, none⟩ (.int .i64 ((q.i : Int) + 1))) q.next) := (R2.gr gs (fun k hk e => by have := hNb.out; omega)).to (by show q.i + 1 ≤ _; have := hlt.out; omega) R2.hd
          have L3 : Hid (LrE (b + 2) (fun z => b + 2 ≤ z) (w2.setCell ⟨b, 1, none⟩ (.int .i64 ((q.i : Int) + 1))) l' (.slice ua ul uc) q) := L2.out.gr gs (fun k hk e => by have h8 : b + 2 ≤ k := hk; omega)
          have G3 := Lib.hid (G2'.out.trans' gs (fun k hk e => by show b ≤ k; omega))
          have hcall := Lib.hid (hun _ q.next R3.out (by show q.d = d; rw [hq.out.1]; exact Hd.out))
          clear K0 K1 C1 gs R2 L2 G2' C0 g2
          go_wp2_with fail
          generalize w2.setCell ⟨b, 1, none⟩ _ = w3 at S0 S1 R3 L3 G3 hcall ⊢
          have K0 := S0
          have K1 := S1
          have KR := R3
          have KL := L3
          have KG := G3
          clear S0 S1 R3 L3 G3
          refine hcall.out.mono ?_
          rintro e w4 ⟨pk, ps, pn, a1, n1, c1', a2, n2, c2', rfl, rep4, hi4, g4⟩
          generalize (un q.next).2 = q1 at Hq2 rep4 hi4 ⊢
          generalize (un q.next).1 = T at Hq2 rep4 ⊢
          have D0 := Lib.hid (g4.keep K0.out (fun e => e))
          have D1 := Lib.hid (g4.keep K1.out (fun e => e))
          have L4 : Hid (LrE (b + 2) (fun z => b + 2 ≤ z ∧ z < w4.heap.size) w4 l' (.slice ua ul uc) q) := (KL.out.gr g4 (fun _ _ e => e)).imp (P' := fun z => b + 2 ≤ z ∧ z < w4.heap.size) (fun k hk h => ⟨h, hk⟩)
          have hown : Hid (∀ k, (Value.slice ua ul uc).ownBlock = some k → k < w3.heap.size) := by
            obtain ⟨_, _, _, hr3, _⟩ := KL.out
            exact fun k hk => (ownsRow_lt hr3 k hk).2
          have G4 := Lib.hid (KG.out.trans (g4.any _))
          have Hi4 := Lib.hid hi4
          have hsq : Hid (b + 2 ≤ w3.heap.size) := by have := (Array.getElem?_eq_some_iff.1 K1.out).1; show _ ≤ _; omega
          have hs4 : Hid (w3.heap.size ≤ w4.heap.size) := g4.size
          have gy := G2 w4 (stb x q1) (.cells #[.int .i64 pk, .string ps, .int .i64 pn, .slice a1 n1 c1', .slice a2 n2 c2'] 30)
          have R5 : Rz x ((w4.alloc (stb x q1)).alloc (.cells #[.int .i64 pk, .string ps, .int .i64 pn, .slice a1 n1 c1', .slice a2 n2 c2'] 30)) q1 := ((KR.out.g0 g4).g0 gy).to hi4.2.2 (by have := KR.out.hd; have := hi4.1; omega)
          have EY : ((w4.alloc (stb x q1)).alloc (.cells #[.int .i64 pk, .string ps, .int .i64 pn, .slice a1 n1 c1', .slice a2 n2 c2'] 30)).heap[w4.heap.size]? = some (stb x q1) := (Gr.alloc _ _ (fun _ => False)).keep (heap_alloc_new w4 _) (fun e => e)
          have EP : ((w4.alloc (stb x q1)).alloc (.cells #[.int .i64 pk, .string ps, .int .i64 pn, .slice a1 n1 c1', .slice a2 n2 c2'] 30)).heap[w4.heap.size + 1]? = some (.cells #[.int .i64 pk, .string ps, .int .i64 pn, .slice a1 n1 c1', .slice a2 n2 c2'] 30 (0, 0)) := by
            have := heap_alloc_new (w4.alloc (stb x q1)) (.cells #[.int .i64 pk, .string ps, .int .i64 pn, .slice a1 n1 c1', .slice a2 n2 c2'] 30)
            simpa using this
          have hwi := Lib.hid (wantV_i x.ts arw q1 hi4.2.2)
          have hadv := Lib.hid (want_adv x.ts arw q1)
          have hw := Lib.hid (rwant_c R5 arw)
          have HR5 := Lib.hid R5
          have Hgy := Lib.hid gy
          have Hrep4 : Hid (q1.e = 0 → Rep (fun z => w3.heap.size ≤ z) w4 T (trv pk ps pn (.slice a1 n1 c1') (.slice a2 n2 c2'))) := rep4
          generalize wantV x.ts arw q1 = q2 at Hq2 hw hwi hadv ⊢
          clear K0 K1 KL KG KR rep4 hi4 g4 gy R5 c0 c1 c2 c3 f0 f1' f2 f3
          go_wp2_with fail
          generalize (w4.alloc (stb x q1)).alloc _ = w5 at EY EP hw HR5 Hgy ⊢
          obtain ⟨yb, hyb⟩ : ∃ yb, w4.heap.size = yb := ⟨_, rfl⟩
          have hyb0 : Hid (b + 2 ≤ yb) := by have := hsq.out; have := hs4.out; show _ ≤ _; omega
          rw [hyb] at EY EP L4 ⊢
          refine hw.out.mono ?_
          rintro e w6 ⟨rfl, g6⟩
          have F0 := Lib.hid (g6.keep (Hgy.out.keep D0.out (fun e => e)) (fun e => e))
          have F1 := Lib.hid (g6.keep (Hgy.out.keep D1.out (fun e => e)) (fun e => e))
          have FY := Lib.hid (g6.keep EY (fun e => e))
          have FP := Lib.hid (g6.keep EP (fun e => e))
          have L6 := Lib.hid ((L4.out.gr Hgy.out (fun _ _ e => e)).gr g6 (fun _ _ e => e))
          have G6 := Lib.hid ((G4.out.trans (Hgy.out.any _)).trans (g6.any _))
          have R6 := Lib.hid ((HR5.out.g0 g6).to (p' := q2) hwi.out.2.2.1 (by have := hwi.out.1; have := HR5.out.hd; omega))
          have rep6 : Hid (q2.e = 0 → Rep (fun z => w3.heap.size ≤ z ∧ z < yb) w6 T (trv pk ps pn (.slice a1 n1 c1') (.slice a2 n2 c2'))) := fun e => (Hrep4.out (hwi.out.2.2.2 e)).turn (fun z hz hl => ⟨⟨hz, by omega⟩, (g6.block z (Nat.lt_of_lt_of_le hl Hgy.out.size) (fun e => e)).trans (Hgy.out.block z hl (fun e => e))⟩)
          obtain ⟨⟨z0, z1, z2, z3⟩, w0', w1', w2', w3'⟩ := four_cells FY.out
          have hly : yb < w6.heap.size := (Array.getElem?_eq_some_iff.1 FY.out).1
          have hlp : yb + 1 < w6.heap.size := (Array.getElem?_eq_some_iff.1 FP.out).1
          have hlb : b < w6.heap.size := by have := hyb0.out; omega
          have hlb1 : b + 1 < w6.heap.size := by have := hyb0.out; omega
          clear D0 D1 L4 G4 EY EP hw HR5 Hgy g6 Hrep4
          by_cases h2e : q2.e = 0
          case neg =>
            have hn5 : yb ≠ b + 1 := by have := hyb0.out; omega
            have hn6 : b + 1 ≠ yb := by have := hyb0.out; omega
            have qn : (q2.e != 0) = true := by rw [bne_iff_ne]; exact h2e
            have qn' : (q2.e == 0) = false := by simpa using h2e
            have Hr2 : Hid (r.2 = q2) := by
              show r.2 = q2
              rw [Hq2.out]
              have e1 : (bodyV x.ts ex q2).2 = q2 := sevV_err hse h2e cma
              rw [e1, sevL_err h2e]
            have gs1 := set4_gr w6 yb (.slice x.a x.ts.length x.c) (.int .i64 (q2.i : Int)) (.int .i64 (q2.d : Int)) (.int .i64 q2.e)
            have S1 := gs1.keep F1.out (by have := hyb0.out; omega)
            obtain ⟨w7, hw7⟩ : ∃ w7, set4 w6 yb (.slice x.a x.ts.length x.c) (.int .i64 (q2.i : Int)) (.int .i64 (q2.d : Int)) (.int .i64 q2.e) = w7 := ⟨_, rfl⟩
            rw [hw7] at gs1 S1
            have gs := set4_gr w7 (b + 1) (.slice x.a x.ts.length x.c) (.int .i64 (q2.i : Int)) (.int .i64 (q2.d : Int)) (.int .i64 q2.e)
            have hf4 := set4_heap S1 (.slice x.a x.ts.length x.c) (.int .i64 (q2.i : Int)) (.int .i64 (q2.d : Int)) (.int .i64 q2.e)
            have G3 := Lib.hid ((G6.out.trans' gs1 (fun k hk e => by have := hyb0.out; show b ≤ k; omega)).trans' gs (fun k hk e => by show b ≤ k; omega))
            obtain ⟨⟨t0, t1, t2, t3⟩, _⟩ := four_cells hf4
            obtain ⟨wF, hwF⟩ : ∃ wF, set4 w7 (b + 1) (.slice x.a x.ts.length x.c) (.int .i64 (q2.i : Int)) (.int .i64 (q2.d : Int)) (.int .i64 q2.e) = wF := ⟨_, rfl⟩
            rw [hwF] at G3 t0 t1 t2 t3
            have hFz : Hid (b ≤ wF.heap.size) := by have h7 := G3.out.size; have h8 := hbW.out; show b ≤ wF.heap.size; omega
            replace t0 := Lib.hid t0
            replace t1 := Lib.hid t1
            replace t2 := Lib.hid t2
            replace t3 := Lib.hid t3
            replace hwF := Lib.hid hwF
            replace hw7 := Lib.hid hw7
            obtain ⟨⟨y0, y1, y2, y3⟩, v0, v1, v2, v3⟩ := four_cells F1.out
            have Hh2 := Lib.hid h2e
            clear hf4 gs gs1 S1 L6 G6 R6 F0 FP h2e
            go_wp2_with fail
            rw [show (((w6.setCell ⟨yb, 0, none⟩ (.slice x.a x.ts.length x.c)).setCell ⟨yb, 1, none⟩ (.int .i64 (q2.i : Int))).setCell ⟨yb, 2, none⟩ (.int .i64 (q2.d : Int))).setCell ⟨yb, 3, none⟩ (.int .i64 q2.e) = w7 from hw7.out]
            rw [show (((w7.setCell ⟨b + 1, 0, none⟩ (.slice x.a x.ts.length x.c)).setCell ⟨b + 1, 1, none⟩ (.int .i64 (q2.i : Int))).setCell ⟨b + 1, 2, none⟩ (.int .i64 (q2.d : Int))).setCell ⟨b + 1, 3, none⟩ (.int .i64 q2.e) = wF from hwF.out]
            obtain ⟨rl, rq⟩ := r
            have hrq : rq = q2 := Hr2.out
            subst hrq
            have h9 := hwi.out
            have h10 := Hi4.out
            have h11 := hPS.out
            refine bodyPost_ret (v := .tuple #[stv x rq, nl]) (by simp [results, Tryz.results102, go_sem, t0.out, t1.out, t2.out, t3.out]) rfl ⟨nl, rfl, ?_, ⟨by show rq.d = p.d; omega, by show p.i ≤ rq.i; omega, h9.2.2.1⟩, ?_⟩
            · rw [hbW.out]; exact LrE.bad hFz.out Hh2.out
            · rw [hbW.out]; exact G3.out
          case pos =>
            have qn : (q2.e != 0) = false := by simp [h2e]
            have qn' : (q2.e == 0) = true := by simp [h2e]
            have hi2 : Hid (q2.i = q1.i + 1) := hadv.out h2e
            have Hh2 := Lib.hid h2e
            have gs1 : Gr (fun k => k = yb) w6 ((((w6.setCell ⟨yb, 0, none⟩ (.slice x.a x.ts.length x.c)).setCell ⟨yb, 1, none⟩ (.int .i64 (q2.i : Int))).setCell ⟨yb, 2, none⟩ (.int .i64 (q2.d : Int))).setCell ⟨yb, 3, none⟩ (.int .i64 q2.e)) := set4_gr w6 yb (.slice x.a x.ts.length x.c) (.int .i64 (q2.i : Int)) (.int .i64 (q2.d : Int)) (.int .i64 q2.e)
            have hby0 := hyb0.out
            have S0 := Lib.hid (gs1.keep F0.out (by omega))
            have S1 := Lib.hid (gs1.keep F1.out (by omega))
            have SP := Lib.hid (gs1.keep FP.out (by omega))
            have SY : Hid (((((w6.setCell ⟨yb, 0, none⟩ (.slice x.a x.ts.length x.c)).setCell ⟨yb, 1, none⟩ (.int .i64 (q2.i : Int))).setCell ⟨yb, 2, none⟩ (.int .i64 (q2.d : Int))).setCell ⟨yb, 3, none⟩ (.int .i64 q2.e)).heap[yb]? = some (stb x q2)) := set4_heap FY.out (.slice x.a x.ts.length x.c) (.int .i64 (q2.i : Int)) (.int .i64 (q2.d : Int)) (.int .i64 q2.e)
            have RS := Lib.hid (R6.out.gr gs1 (fun k hk e => by have := hNb.out; omega))
            have LS := Lib.hid (L6.out.gr gs1 (fun k hk e => by have h8 : b + 2 ≤ k ∧ k < yb := hk; omega))
            have GS := Lib.hid (G6.out.trans' gs1 (fun k hk e => by show b ≤ k; omega))
            have rep7 : Hid (Rep (fun z => w3.heap.size ≤ z ∧ z < yb) ((((w6.setCell ⟨yb, 0, none⟩ (.slice x.a x.ts.length x.c)).setCell ⟨yb, 1, none⟩ (.int .i64 (q2.i : Int))).setCell ⟨yb, 2, none⟩ (.int .i64 (q2.d : Int))).setCell ⟨yb, 3, none⟩ (.int .i64 q2.e)) T (trv pk ps pn (.slice a1 n1 c1') (.slice a2 n2 c2'))) := (rep6.out h2e).turn (fun z hz hl => ⟨hz, gs1.block z hl (by omega)⟩)
            have hcall8 := Lib.hid (rbody_c d ex hex _ q2 RS.out (by have := hwi.out; have := Hi4.out; have := hPS.out; have := Hd.out; omega))
            have hz7 := Lib.hid gs1.size
            have hz6 : Hid (yb + 2 ≤ w6.heap.size) := hlp
            clear L6 G6 R6 F0 F1 FP FY h2e rep6 gs1 hby0
            go_wp2_with fail
            generalize (((w6.setCell ⟨yb, 0, none⟩ (.slice x.a x.ts.length x.c)).setCell ⟨yb, 1, none⟩ (.int .i64 (q2.i : Int))).setCell ⟨yb, 2, none⟩ (.int .i64 (q2.d : Int))).setCell ⟨yb, 3, none⟩ (.int .i64 q2.e) = w7 at S0 S1 SP SY RS LS GS rep7 hcall8 hz7 ⊢
            refine hcall8.out.mono ?_
            rintro e w8 ⟨bk, bs, bn, b1, m1, d1, b2, m2, d2, rfl, rep8, hi8, g8⟩
            generalize (bodyV x.ts ex q2).2 = q3 at Hq2 rep8 hi8 ⊢
            generalize (bodyV x.ts ex q2).1 = U at Hq2 rep8 ⊢
            have T0 := Lib.hid (g8.keep S0.out (fun e => e))
            have T1 := Lib.hid (g8.keep S1.out (fun e => e))
            have TP := Lib.hid (g8.keep SP.out (fun e => e))
            have TY := Lib.hid (g8.keep SY.out (fun e => e))
            have LT := Lib.hid (LS.out.gr g8 (fun _ _ e => e))
            have GT := Lib.hid (GS.out.trans (g8.any _))
            have Hi8 := Lib.hid hi8
            have RT := Lib.hid ((RS.out.g0 g8).to (p' := q3) hi8.2.2 (by have := hi8.1; have := RS.out.hd; omega))
            have hz8 : Hid (yb + 2 ≤ w8.heap.size) := by have := g8.size; have := hz7.out; have := hz6.out; show _ ≤ _; omega
            have rT : Hid (q3.e = 0 → Rep (fun z => (b + 2 ≤ z ∧ z ≠ yb) ∧ (Value.slice ua ul uc).ownBlock ≠ some z) w8 T (trv pk ps pn (.slice a1 n1 c1') (.slice a2 n2 c2'))) := fun _ => rep7.out.turn (fun z hz hl => ⟨⟨⟨by have := hsq.out; omega, by omega⟩, fun e => by have := hown.out z e; omega⟩, g8.block z hl (fun e => e)⟩)
            have rU : Hid (q3.e = 0 → Rep (fun z => (b + 2 ≤ z ∧ z ≠ yb) ∧ (Value.slice ua ul uc).ownBlock ≠ some z) w8 U (trv bk bs bn (.slice b1 m1 d1) (.slice b2 m2 d2))) := fun e => (rep8 e).turn (fun z hz hl => by
              have h7 : w7.heap.size ≤ z := hz
              have h8 := hz7.out
              have h9 := hz6.out
              have h10 := hyb0.out
              have h11 := hs4.out
              refine ⟨⟨⟨by omega, by omega⟩, fun e => ?_⟩, rfl⟩
              have := hown.out z e
              omega)
            have hA1 : Hid ((b + 2 ≤ w8.heap.size + 1 ∧ w8.heap.size + 1 ≠ yb) ∧ (Value.slice ua ul uc).ownBlock ≠ some (w8.heap.size + 1)) := by
              have h8 := hz8.out
              have h10 := hyb0.out
              have h11 := hs4.out
              refine ⟨⟨by omega, by omega⟩, fun e => ?_⟩
              have := hown.out _ e
              omega
            obtain ⟨⟨x0, x1, x2, x3⟩, w0', w1', w2', w3'⟩ := four_cells TY.out
            obtain ⟨⟨m0, m1', m2', m3, m4⟩, o0, o1, o2, o3, o4⟩ := five_cells TP.out
            obtain ⟨⟨j0, j1, j2, j3⟩, r0', r1', r2', r3'⟩ := four_cells T0.out
            have hly : yb < w8.heap.size := by have := hz8.out; omega
            have hlp : yb + 1 < w8.heap.size := by have := hz8.out; omega
            have hlb : b < w8.heap.size := by have := hz8.out; have := hyb0.out; omega
            have hn1 : yb ≠ b := by have := hyb0.out; omega
            have hn2 : yb + 1 ≠ b := by have := hyb0.out; omega
            have hn3 : b ≠ yb := by have := hyb0.out; omega
            have hn4 : b ≠ yb + 1 := by have := hyb0.out; omega
            have hmq : Hid (ul ≤ q.i + 1) := by
              obtain ⟨_, m, xs, hr3, hm3, _⟩ := LT.out
              obtain ⟨_, _, e⟩ := ownsRow_sv hr3
              cases e
              exact hm3.1
            clear S0 S1 SP SY RS LS GS rep7 hcall8 hz7 rep8 hi8 g8 z0 z1 z2 z3
            go_wp2_with (first
              | (at_builtin; generalize hX : World.alloc (World.alloc (World.alloc (World.setCell _ _ _) _) _) _ = X; obtain ⟨gX, X0, Xs, Xc, XN⟩ := cls_x (A := fun z => (b + 2 ≤ z ∧ z ≠ yb) ∧ (Value.slice ua ul uc).ownBlock ≠ some z) (T := T) (U := U) T0.out hX hn3 (fun z hz => ⟨by omega, by omega⟩) hA1.out rT.out rU.out; obtain ⟨hLb, m, xs, hrow, hm, hownX, hreps⟩ := (LT.out.gr gX (fun k hk e => by have h8 : b + 2 ≤ k ∧ k < yb := hk; omega)).imp (P' := fun z => b + 2 ≤ z) (fun k _ h => h.1); obtain ⟨_, _, hsv⟩ := ownsRow_sv hrow; have hul : ul = m := (by cases hsv; rfl); subst hul; clear hsv; have HXN := Lib.hid XN; have HrX := Lib.hid hreps; have HoX := Lib.hid hownX; clear XN hreps hownX; refine wpList_own2 _ rfl 28 _ _ rfl (b + 2) 30 i0 (trv 0 e0 0 nl nl) 5 80 Tryz.underlying28 hi0 hz0 hz1 hz2 rfl (by decide) (.slice ua ul uc) ul xs ⟨w8.heap.size + 1 + 1, 0, none⟩ 1 1 [.int .i64 15, .string e0, .int .i64 0, nl, .slice (some ⟨w8.heap.size + 1, 0, none⟩) 2 2] rfl rfl hrow rfl Xc (by simp [Value.oneCell']) (by unfold maxLen; have := hmq.out; have := hRm.out; have := hqlen.out; omega) (by have := hmq.out; have := hRm.out; have := hqlen.out; omega) (by omega) ?_; intro v' w9 hrow9 hgr9 hloc9; obtain ⟨a9, cap9, rfl⟩ := ownsRow_sv hrow9; clear hX)
              | fail)
            have Gg : Gr (fun k => (Value.slice ua ul uc).ownBlock = some k) X w9 := Gr.of_grown hgr9 (fun z e => e)
            have h3 := Hi4.out
            have h4 := hi2.out
            have h5 := Hi8.out
            have h6 := hPS.out
            have h7 := hwi.out
            have n2 : Hid (LrE (b + 2) (fun z => b + 2 ≤ z) w9 (l' ++ [.mk 15 e0 0 [] [T, U]]) (.slice a9 (ul + 1) cap9) q3) := by
              refine LrE.grown (q := q2) hLb hrow ⟨by have := hmq.out; omega, hm.2⟩ h5.2.1 HoX.out (fun z hz => by have h8 := hLb; show b + 2 ≤ z; omega) (fun _ => ?_) (fun _ => Hh2.out) (fun e => ?_) hgr9 hloc9 hrow9 ⟨rfl, rfl⟩
              · obtain ⟨e1, vs, e2, e3⟩ := HrX.out hqe.out
                exact ⟨e1, vs, e2, e3⟩
              · exact (HXN.out e).turn (fun z hz hl => ⟨⟨hz.1.1, hz.2⟩, rfl⟩)
            have n3 : Rz x w9 q3 := (RT.out.gr gX (fun k hk e => by have := hNb.out; have := hyb0.out; omega)).gr Gg (fun k hk e => by have h8 : b + 2 ≤ k := HoX.out k e; have := hNb.out; omega)
            have n4 : w9.heap[b]? = some (stb x q3) := Gg.keep X0 (fun e => by have h8 : b + 2 ≤ b := HoX.out b e; omega)
            have n5 : w9.heap[b + 1]? = some zs := Gg.keep (gX.keep T1.out (by have := hyb0.out; omega)) (fun e => by have h8 : b + 2 ≤ b + 1 := HoX.out _ e; omega)
            have n7 : Hid (Gr (fun k => b ≤ k) W w9) := (GT.out.trans' gX (fun k hk e => by have := hyb0.out; show b ≤ k; omega)).trans' Gg (fun k hk e => by have h8 : b + 2 ≤ k := HoX.out k e; show b ≤ k; omega)
            have n8 : x.ts.length - atP w9 b < x.ts.length - atP wr b := by
              have ea : atP w9 b = q3.i := by
                obtain ⟨⟨_, e1, _, _⟩, _⟩ := four_cells n4
                simp [atP, e1]
              rw [ea, Hat.out]
              omega
            exact ⟨⟨false, _, q3, fu, rfl, (by have := hf1.out; show _ ≤ _; omega), Hq2, n2, n3, n4, n5, ⟨by omega, by omega, by omega⟩, n7⟩, n8⟩
        | false =>
          have Hx : Hid (r.2 = q ∧ (q.e = 0 → r.1 = l')) := by
            have e : r = (l', q) := by
              rw [Hq.out]
              show sevL x.ts sem (clauseV x.ts ex un) f l' q = _
              cases f with
              | zero => rfl
              | succ f => rw [sevL, if_neg (by simp [hs])]
            rw [e]
            exact ⟨rfl, fun _ => rfl⟩
          rw [hs] at his
          clear hs Hq hf
          go_wp2_with fail
          refine his.mono ?_
          rintro e w2 ⟨rfl, g2⟩
          replace K0 := Lib.hid (g2.keep K0.out (fun e => e))
          replace K1 := Lib.hid (g2.keep K1.out (fun e => e))
          replace KL := Lib.hid (KL.out.gr g2 (fun _ _ e => e))
          replace KG := Lib.hid (KG.out.trans (g2.any _))
          clear c0 c1 c2 c3 f0 f1' f2 f3 his KR g2 hbl hbl'
          obtain ⟨rl, rq⟩ := r
          have hrq : rq = q := Hx.out.1
          subst hrq
          have hl2 : b + 1 < w2.heap.size := (Array.getElem?_eq_some_iff.1 K1.out).1
          have hl2' : b < w2.heap.size := by omega
          have gs := set4_gr w2 (b + 1) (.slice x.a x.ts.length x.c) (.int .i64 (rq.i : Int)) (.int .i64 (rq.d : Int)) (.int .i64 rq.e)
          have hf4 := set4_heap K1.out (.slice x.a x.ts.length x.c) (.int .i64 (rq.i : Int)) (.int .i64 (rq.d : Int)) (.int .i64 rq.e)
          have L3 := Lib.hid ((((KL.out.sw Hx.out.2).gr gs (fun k hk e => by have hk' : b + 2 ≤ k := hk; omega)).imp (P' := fun z => b ≤ z) (fun k _ hk => by have hk' : b + 2 ≤ k := hk; omega)).mono (base' := b) (by omega))
          have G3 := Lib.hid (KG.out.trans' gs (fun k hk e => by show b ≤ k; omega))
          obtain ⟨⟨c0, c1, c2, c3⟩, f0, f1, f2, f3⟩ := four_cells K0.out
          obtain ⟨⟨y0, y1, y2, y3⟩, v0, v1, v2, v3⟩ := four_cells K1.out
          obtain ⟨⟨t0, t1, t2, t3⟩, _⟩ := four_cells hf4
          obtain ⟨wF, hwF⟩ : ∃ wF, set4 w2 (b + 1) (.slice x.a x.ts.length x.c) (.int .i64 (rq.i : Int)) (.int .i64 (rq.d : Int)) (.int .i64 rq.e) = wF := ⟨_, rfl⟩
          rw [hwF] at L3 G3 t0 t1 t2 t3
          replace t0 := Lib.hid t0
          replace t1 := Lib.hid t1
          replace t2 := Lib.hid t2
          replace t3 := Lib.hid t3
          replace hwF := Lib.hid hwF
          clear hf4 gs KL KG
          go_wp2_with fail
          rw [show (((w2.setCell ⟨b + 1, 0, none⟩ (.slice x.a x.ts.length x.c)).setCell ⟨b + 1, 1, none⟩ (.int .i64 (rq.i : Int))).setCell ⟨b + 1, 2, none⟩ (.int .i64 (rq.d : Int))).setCell ⟨b + 1, 3, none⟩ (.int .i64 rq.e) = wF from hwF.out]
          refine bodyPost_ret (v := .tuple #[stv x rq, .slice ua ul uc]) (by simp [results, Tryz.results102, go_sem, t0.out, t1.out, t2.out, t3.out]) rfl ⟨_, rfl, ?_, hq.out, ?_⟩
          · rw [hbW.out]; exact L3.out
          · rw [hbW.out]; exact G3.out
end Go.Proofs.YtggkjkkbkpnkiaaGreatDoor
