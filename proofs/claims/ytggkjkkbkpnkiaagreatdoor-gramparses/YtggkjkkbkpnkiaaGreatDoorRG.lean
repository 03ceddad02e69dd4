/-
  The reference's chain: sums and products.
-/
import Derived.Test.YtggkjkkbkpnkiaaGreatDoorRF
set_option linter.unusedVariables false
set_option linter.unusedSimpArgs false
namespace Go.Proofs.YtggkjkkbkpnkiaaGreatDoor
open Go.RowKit Go.Maps
variable {x : Kx} {W W' : World} {p p' : Ps}
theorem chain_y {w2 X : World} {b : Nat} {q : Ps} {T : Tr} {k n : Int} {s : ByteArray} {bv lv : Value} (hl : b + 3 ≤ w2.heap.size) (h0 : w2.heap[b]? = some (stb x p)) (hT : q.e = 0 → Rep (fun z => b + 3 ≤ z) w2 T (trv k s n bv lv))
    (hX : (set4 w2 b (.slice x.a x.ts.length x.c) (.int .i64 (q.i : Int)) (.int .i64 (q.d : Int)) (.int .i64 q.e)).alloc (.cells #[.int .i64 k, .string s, .int .i64 n, bv, lv] 30) = X) :
    Gr (fun z => z = b) w2 X ∧ X.heap[b]? = some (stb x q) ∧ X.heap[w2.heap.size]? = some (.cells #[.int .i64 k, .string s, .int .i64 n, bv, lv] 30 (0, 0)) ∧ (q.e = 0 → Rep (fun z => b + 3 ≤ z ∧ z ≠ w2.heap.size) X T (trv k s n bv lv)) := by
  have gs := set4_gr w2 b (.slice x.a x.ts.length x.c) (.int .i64 (q.i : Int)) (.int .i64 (q.d : Int)) (.int .i64 q.e)
  have hf := set4_heap h0 (.slice x.a x.ts.length x.c) (.int .i64 (q.i : Int)) (.int .i64 (q.d : Int)) (.int .i64 q.e)
  have hs5 : (set4 w2 b (.slice x.a x.ts.length x.c) (.int .i64 (q.i : Int)) (.int .i64 (q.d : Int)) (.int .i64 q.e)).heap.size = w2.heap.size := by simp
  generalize set4 w2 b _ _ _ _ = w5 at gs hf hs5 hX
  have ga := Gr.alloc w5 (.cells #[.int .i64 k, .string s, .int .i64 n, bv, lv] 30) (fun _ => False)
  have hn := heap_alloc_new w5 (.cells #[.int .i64 k, .string s, .int .i64 n, bv, lv] 30)
  rw [hs5] at hn
  subst hX
  refine ⟨gs.trans (ga.any _), ga.keep hf (fun e => e), hn, fun he => (hT he).turn (fun z hz hl2 => ?_)⟩
  have hz' : b + 3 ≤ z := hz
  exact ⟨⟨hz', by omega⟩, (ga.block z (by omega) (fun e => e)).trans (gs.block z hl2 (by omega))⟩
/-- What a region that draws reads while it stores: a state and a tree. -/
def RT (x : Kx) (b ab : Nat) (q : Ps) (k : Int) (s : ByteArray) (n : Int) (bv lv : Value) (w : World) : Prop := w.heap[b]? = some (stb x q) ∧ w.heap[ab]? = some (.cells #[.int .i64 k, .string s, .int .i64 n, bv, lv] 30 (0, 0))
set_option maxRecDepth 100000 in
set_option maxHeartbeats 1200000 in
theorem rchain_c (lev : Int) (hlv : 0 ≤ lev ∧ lev ≤ 2) (d : Nat) (g : Rule) (hg : COk x (lev + 1) d g) : COk x lev d (joinV x.ts (sgsOf lev) g x.ts.length) := by
  intro W p h hd
  obtain ⟨r, hr⟩ : ∃ r, r = joinV x.ts (sgsOf lev) g x.ts.length p := ⟨_, rfl⟩
  rw [← hr]
  have Hr : Hid (r = joinL x.ts (sgsOf lev) g x.ts.length (g p).1 (g p).2) := hr
  clear hr
  obtain ⟨g0, b0, b1, b2, hz0⟩ := open3 (x := x) W p
  obtain ⟨b, hb⟩ : ∃ b, W.heap.size = b := ⟨_, rfl⟩
  have Hd := Lib.hid hd
  have hbW := Lib.hid hb
  have hNb : Hid (x.N ≤ b) := by have := h.hN; show _ ≤ _; omega
  have hl3 : (lev == 3) = false := by simp; omega
  have hcall := hg _ p (h.g0 g0) hd
  have R0 := Lib.hid (h.g0 g0)
  clear hd h
  go_enter Tryz.func62, Tryz.ntmps62
  go_wp2_with fail
  generalize ((W.alloc _).alloc _).alloc _ = W1 at g0 b0 b1 b2 hz0 hcall R0 ⊢
  rw [hb] at b0 b1 b2 hz0
  refine hcall.mono ?_
  rintro e w2 ⟨tk, tt, tn, a1, n1, c1, a2, n2, c2, rfl, rep2, hi2, g2⟩
  generalize (g p).2 = q at Hr rep2 hi2 ⊢
  generalize (g p).1 = T at Hr rep2 ⊢
  have C0 := Lib.hid (g2.keep b0 (fun e => e))
  have C1 := Lib.hid (g2.keep b1 (fun e => e))
  have C2 := Lib.hid (g2.keep b2 (fun e => e))
  have R2 := Lib.hid (R0.out.g0 g2)
  have G2' := Lib.hid (g0.trans g2)
  have Hrep2 := Lib.hid rep2
  have Hi2 := Lib.hid hi2
  have hs2 : b + 3 ≤ w2.heap.size := by have := g2.size; omega
  obtain ⟨⟨c0, c1', c2', c3⟩, f0, f1, f2, f3⟩ := four_cells C0.out
  have hl0 : b < w2.heap.size := by omega
  clear b0 b1 b2 g0 rep2 hi2 hcall g2
  go_wp2_with fail
  generalize hX : World.alloc (set4 w2 b (.slice x.a x.ts.length x.c) (.int .i64 (q.i : Int)) (.int .i64 (q.d : Int)) (.int .i64 q.e)) _ = X
  obtain ⟨gX, X0, XA, XT⟩ := chain_y (x := x) (T := T) hs2 C0.out (fun he => (Hrep2.out he).turn (fun z hz hl => ⟨by have h9 : W1.heap.size ≤ z := hz; show b + 3 ≤ z; omega, rfl⟩)) hX
  obtain ⟨ab, hab⟩ : ∃ ab, w2.heap.size = ab := ⟨_, rfl⟩
  clear hX c0 c1' c2' c3 f0 f1 f2 f3
  rw [hab] at XA XT hs2 ⊢
  have RX : Rz x X q := (R2.out.gr gX (fun k hk e => by have := hNb.out; omega)).to Hi2.out.2.2 (by rw [Hi2.out.1]; exact R2.out.hd)
  have X1 := gX.keep C1.out (by omega)
  have X2 := gX.keep C2.out (by omega)
  have GX := Lib.hid (G2'.out.trans' gX (fun k hk e => by have := hbW.out; omega))
  refine (rjoins_c RX lev).mono ?_
  rintro e w3 ⟨rfl, g3⟩
  have S0 := g3.keep X0 (fun e => e)
  have S1 := Lib.hid (g3.keep X1 (fun e => e))
  have S2 := Lib.hid (g3.keep X2 (fun e => e))
  have SA := g3.keep XA (fun e => e)
  have RS := Lib.hid (RX.g0 g3)
  have GS := Lib.hid (GX.out.trans g3)
  have ST : Hid (q.e = 0 → Rep (fun z => b + 3 ≤ z ∧ z ≠ ab) w3 T (trv tk tt tn (.slice a1 n1 c1) (.slice a2 n2 c2))) := fun he => (XT he).turn (fun z hz hl => ⟨hz, g3.block z hl (fun e => e)⟩)
  have hab3 : Hid (b + 3 ≤ ab) := hs2
  clear X0 X1 X2 XA XT RX GX gX g3 C0 C1 C2 hab hs2 hl0
  go_wp2_with fail
  go_loopw [7] (fun u wr => ∃ (T : Tr) (q : Ps) (f : Nat) (k : Int) (s : ByteArray) (n : Int) (d1 : Option Addr) (m1 e1 : Nat) (d2 : Option Addr) (m2 e2 : Nat), Hid (x.ts.length ≤ f + q.i) ∧ Hid (r = joinL x.ts (sgsOf lev) g f T q) ∧ u = .string (joinsV x.ts lev q) ∧ wr.heap[b]? = some (stb x q) ∧ Hid (wr.heap[b + 1]? = some zs) ∧ Hid (wr.heap[b + 2]? = some zt) ∧ wr.heap[ab]? = some (.cells #[.int .i64 k, .string s, .int .i64 n, .slice d1 m1 e1, .slice d2 m2 e2] 30 (0, 0)) ∧
      Hid (q.e = 0 → Rep (fun z => b + 3 ≤ z ∧ z ≠ ab) wr T (trv k s n (.slice d1 m1 e1) (.slice d2 m2 e2))) ∧ Hid (Rz x wr q) ∧ Hid (q.d = p.d ∧ p.i ≤ q.i ∧ q.i ≤ x.ts.length) ∧ Hid (Gr (fun _ => False) W wr)) (fun u wr => x.ts.length - atP wr b)
  case atStart => exact ⟨T, q, x.ts.length, tk, tt, tn, a1, n1, c1, a2, n2, c2, by show _ ≤ _; omega, Hr, rfl, S0, S1, S2, SA, ST, RS, Hi2, GS⟩
  case round =>
    clear S0 S1 S2 SA ST RS GS Hr Hi2 Hrep2 R2 G2'
    obtain ⟨T, q, f, k, s, n, ka, kl, kc, ja, jl, jc, hf, Hq, rfl, B0, B1, B2, BA, BT, BR, hq, hG⟩ := hrel
    obtain ⟨⟨c0, c1', c2', c3⟩, f0, f1, f2, f3⟩ := four_cells B0
    have Hat : Hid (atP wr b = q.i) := by show _ = _; simp [atP, c1']
    have hqI : (q.i : Int) ≤ 100000 := by have := hq.out; have := BR.out.hm; omega
    have habl : ab < wr.heap.size := (Array.getElem?_eq_some_iff.1 BA).1
    have hbl : b < wr.heap.size := (Array.getElem?_eq_some_iff.1 B0).1
    cases hav : (sgsOf lev).any (isV x.ts q) with
    | true =>
      obtain ⟨hj1, hj2⟩ := joins_yes hav
      have hlt := Lib.hid (any_lt' hav)
      obtain ⟨f, rfl⟩ : ∃ f', f = f' + 1 := ⟨f - 1, by have := hf.out; have := hlt.out; omega⟩
      have Hq2 : Hid (r = joinL x.ts (sgsOf lev) g f (.mk 8 (joinsV x.ts lev q) 0 [] [T, (g q.next).1]) (g q.next).2) := by
        show r = _
        rw [Hq.out, joinL, if_pos hav, hj1]
      have hne := ne_e0 hj2
      generalize joinsV x.ts lev q = sg at Hq2 hne ⊢
      have gs : Gr (fun k => k = b) wr (wr.setCell ⟨b, 1, none⟩ (.int .i64 ((q.i : Int) + 1))) := Gr.set _ _ _ rfl
      have S0 : (wr.setCell ⟨b, 1, none⟩ (.int .i64 ((q.i : Int) + 1))).heap[b]? = some (stb x q.next) := heap_setCell_same wr b 1 _ 45 _ B0
      have S1 := Lib.hid (gs.keep B1.out (by omega))
      have S2 := Lib.hid (gs.keep B2.out (by omega))
      have SA := Lib.hid (gs.keep BA (by have := hab3.out; omega))
      have ST : Hid (q.e = 0 → Rep (fun z => b + 3 ≤ z ∧ z ≠ ab) (wr.setCell ⟨b, 1, none⟩ (.int .i64 ((q.i : Int) + 1))) T (trv k s n (.slice ka kl kc) (.slice ja jl jc))) := fun he => (BT.out he).turn (fun z hz hl => ⟨hz, gs.block z hl (by have := hz.1; omega)⟩)
      have R3 : Rz x (wr.setCell ⟨b, 1, none⟩ (.int .i64 ((q.i : Int) + 1))) q.next := (BR.out.gr gs (fun k hk e => by have := hNb.out; omega)).to (by show q.i + 1 ≤ _; have := hlt.out; omega) BR.out.hd
      have G3 := Lib.hid (hG.out.trans' gs (fun k hk e => by have := hbW.out; omega))
      have hcall := Lib.hid (hg _ q.next R3 (by show q.d = d; rw [hq.out.1]; exact Hd.out))
      have HS0 := Lib.hid S0
      have HR3 := Lib.hid R3
      have hsz3 : Hid ((wr.setCell ⟨b, 1, none⟩ (.int .i64 ((q.i : Int) + 1))).heap.size = wr.heap.size) := by show _ = _; simp
      clear hav hj1 hj2 Hq S0 R3 gs B0 B1 B2 BA BT BR hG
      go_wp2_with fail
      generalize wr.setCell ⟨b, 1, none⟩ _ = w3 at HS0 S1 S2 SA ST HR3 G3 hcall hsz3 ⊢
      refine hcall.out.mono ?_
      rintro e w4 ⟨uk, ut, un, o1, l1, h1, o2, l2, h2, rfl, rep4, hi4, g4⟩
      generalize (g q.next).2 = q' at Hq2 rep4 hi4 ⊢
      generalize (g q.next).1 = T' at Hq2 rep4 ⊢
      have D0 := g4.keep HS0.out (fun e => e)
      have D1 := Lib.hid (g4.keep S1.out (fun e => e))
      have D2 := Lib.hid (g4.keep S2.out (fun e => e))
      have DA := g4.keep SA.out (fun e => e)
      have R4 := Lib.hid (HR3.out.g0 g4)
      have G4 := Lib.hid (G3.out.trans g4)
      have hl4 : ab < w4.heap.size := (Array.getElem?_eq_some_iff.1 DA).1
      have hl4' : b < w4.heap.size := (Array.getElem?_eq_some_iff.1 D0).1
      have T4 : Hid (q'.e = 0 → Rep (fun z => b + 3 ≤ z ∧ z ≠ ab) w4 T (trv k s n (.slice ka kl kc) (.slice ja jl jc))) := fun _ => (ST.out hlt.out.1).turn (fun z hz hl => ⟨hz, g4.block z hl (fun e => e)⟩)
      have U4 : Hid (q'.e = 0 → Rep (fun z => b + 3 ≤ z ∧ z ≠ ab) w4 T' (trv uk ut un (.slice o1 l1 h1) (.slice o2 l2 h2))) := fun he => (rep4 he).turn (fun z hz hl => ⟨by have h9 : w3.heap.size ≤ z := hz; have := hsz3.out; have := hab3.out; exact ⟨by omega, by omega⟩, rfl⟩)
      have Hi4 := Lib.hid hi4
      obtain ⟨⟨x0, x1, x2, x3⟩, v0, v1, v2, v3⟩ := four_cells D0
      obtain ⟨⟨m0, kl', jl', m3, m4⟩, r0, r1, r2, r3, r4⟩ := five_cells DA
      have HD0 := Lib.hid D0
      have HDA := Lib.hid DA
      have hz1' : b < w4.heap.size + 1 := by omega
      have hz2' : b < w4.heap.size + 1 + 1 := by omega
      have hz3' : ab < w4.heap.size + 1 := by omega
      have hz4' : ab < w4.heap.size + 1 + 1 := by omega
      have habb : ¬ ab = b := by have := hab3.out; omega
      have hbab : ¬ b = ab := by have := hab3.out; omega
      clear c0 c1' c2' c3 f0 f1 f2 f3 D0 DA rep4 hi4 hcall HS0 S1 S2 SA ST HR3 G3 g4
      go_wp2_with fail
      generalize hX : World.alloc (World.alloc (World.alloc (set5 (set4 w4 b (.slice x.a x.ts.length x.c) (.int .i64 (q'.i : Int)) (.int .i64 (q'.d : Int)) (.int .i64 q'.e)) ab (.int .i64 8) (.string sg) (.int .i64 0) nl (.slice (some ⟨w4.heap.size + 1 + 1, 0, none⟩) 2 2)) _) _) _ = X
      obtain ⟨gX, X0, XA, XT⟩ := chain_x (x := x) (T := T) (U := T') hab3.out hl4 HD0.out HDA.out T4.out U4.out hX
      clear hX x0 x1 x2 x3 v0 v1 v2 v3 m0 kl' jl' m3 m4 r0 r1 r2 r3 r4
      have RX : Rz x X q' := (R4.out.gr gX (fun k hk e => by have := hNb.out; have := hab3.out; omega)).to Hi4.out.2.2 (by have h8 := Hi4.out.1; have h9 : q.next.d = q.d := rfl; have h10 := R4.out.hd; omega)
      have X1 := gX.keep D1.out (by have := hab3.out; omega)
      have X2 := gX.keep D2.out (by have := hab3.out; omega)
      have GX := G4.out.trans' gX (fun k hk e => by have := hbW.out; have := hab3.out; omega)
      refine (rjoins_c RX lev).mono ?_
      rintro e w6 ⟨rfl, g6⟩
      have n1 : Hid (x.ts.length ≤ f + q'.i) := by have := hf.out; have h6 : q.i + 1 ≤ q'.i := Hi4.out.2.1; show _ ≤ _; omega
      have n2 := g6.keep X0 (fun e => e)
      have n3 := Lib.hid (g6.keep X1 (fun e => e))
      have n4 := Lib.hid (g6.keep X2 (fun e => e))
      have n5 := g6.keep XA (fun e => e)
      have n6 : Hid (q'.e = 0 → Rep (fun z => b + 3 ≤ z ∧ z ≠ ab) w6 (.mk 8 sg 0 [] [T, T']) (trv 8 sg 0 nl (.slice (some ⟨w4.heap.size + 1 + 1, 0, none⟩) 2 2))) := fun he => (XT he).turn (fun z hz hl => ⟨hz, g6.block z hl (fun e => e)⟩)
      have n7 := Lib.hid (RX.g0 g6)
      have n8 : Hid (q'.d = p.d ∧ p.i ≤ q'.i ∧ q'.i ≤ x.ts.length) := by
        have h6 : q.i + 1 ≤ q'.i := Hi4.out.2.1
        have h7 : q'.d = q.d := Hi4.out.1
        have h8 := hq.out
        exact ⟨by omega, by omega, Hi4.out.2.2⟩
      have n9 := Lib.hid (GX.trans g6)
      have n10 : Hid (x.ts.length - atP w6 b < x.ts.length - atP wr b) := by
        have ea : atP w6 b = q'.i := by
          obtain ⟨⟨_, kc, _, _⟩, _⟩ := four_cells n2
          simp [atP, kc]
        show _ < _
        rw [ea, Hat.out]
        have h6 : q.i + 1 ≤ q'.i := Hi4.out.2.1
        have h7 := hlt.out.2
        have h8 := Hi4.out.2.2
        omega
      clear gX X0 XA XT RX X1 X2 GX g6
      go_wp2_with fail
      exact ⟨⟨_, q', f, 8, sg, 0, none, 0, 0, some ⟨w4.heap.size + 1 + 1, 0, none⟩, 2, 2, n1, Hq2, rfl, n2, n3, n4, n5, n6, n7, n8, n9⟩, n10.out⟩
    | false =>
      have hj := joins_no hav
      have Hq2 : Hid (r = (T, q)) := by
        show r = _
        rw [Hq.out]
        cases f with
        | zero => rfl
        | succ f => rw [joinL, if_neg (by simp [hav])]
      rw [hj]
      have Bd0 : Hid (wr.drew.heap[b]? = some (stb x q)) := B0
      have Bd1 : Hid (wr.drew.heap[b + 1]? = some zs) := B1.out
      have Bd2 : Hid (wr.drew.heap[b + 2]? = some zt) := B2.out
      have BdA : Hid (wr.drew.heap[ab]? = some (.cells #[.int .i64 k, .string s, .int .i64 n, .slice ka kl kc, .slice ja jl jc] 30 (0, 0))) := BA
      have BTd : Hid (q.e = 0 → Rep (fun z => b + 3 ≤ z) wr.drew T (trv k s n (.slice ka kl kc) (.slice ja jl jc))) := fun he => (BT.out he).turn (fun z hz hl => ⟨hz.1, rfl⟩)
      have Gd := Lib.hid (hG.out.trans (Gr.drew wr _))
      clear hav hj Hq B0 B1 B2 BA BT BR hG Hat c0 c1' c2' c3 f0 f1 f2 f3 habl hbl hqI
      go_wp2_with fail
      refine wp_region_L (T := RT x b ab q k s n (.slice ka kl kc) (.slice ja jl jc)) (L := 3) (by kernel_rfl) ?_
      have TS : Hid (RT x b ab q k s n (.slice ka kl kc) (.slice ja jl jc) wr.drew) := ⟨Bd0.out, BdA.out⟩
      have C1 := Bd1.out
      have C2 := Bd2.out
      generalize wr.drew = wd at TS C1 C2 BTd Gd ⊢
      clear Bd0 Bd1 Bd2 BdA
      obtain ⟨E1, E2, E3, E4⟩ := end3 (x := x) (q := q) (T := T) (k := k) (s := s) (n := n) (bv := .slice ka kl kc) (lv := .slice ja jl jc) (Gd.out) hbW.out C1 C2 (BTd.out)
      obtain ⟨wF, hwF⟩ : ∃ wF, set5 (set4 wd (b + 1) (.slice x.a x.ts.length x.c) (.int .i64 (q.i : Int)) (.int .i64 (q.d : Int)) (.int .i64 q.e)) (b + 2) (.int .i64 k) (.string s) (.int .i64 n) (.slice ka kl kc) (.slice ja jl jc) = wF := ⟨_, rfl⟩
      rw [hwF] at E1 E2 E3 E4
      replace E1 := Lib.hid E1
      replace E2 := Lib.hid E2
      replace E3 := Lib.hid E3
      replace E4 := Lib.hid E4
      replace hwF := Lib.hid hwF
      obtain ⟨⟨y0, y1, y2, y3⟩, v0, v1, v2, v3⟩ := four_cells C1
      obtain ⟨⟨m0, m1, m2, m3, m4⟩, o0, o1, o2, o3, o4⟩ := five_cells C2
      have hlz : b + 2 < wd.heap.size := (Array.getElem?_eq_some_iff.1 C2).1
      have hlz' : b + 1 < wd.heap.size := by omega
      have TS4 : Hid (RT x b ab q k s n (.slice ka kl kc) (.slice ja jl jc) (set4 wd (b + 1) (.slice x.a x.ts.length x.c) (.int .i64 (q.i : Int)) (.int .i64 (q.d : Int)) (.int .i64 q.e))) := by
        have gs := set4_gr wd (b + 1) (.slice x.a x.ts.length x.c) (.int .i64 (q.i : Int)) (.int .i64 (q.d : Int)) (.int .i64 q.e)
        have h3 := hab3.out
        exact ⟨gs.keep TS.out.1 (by omega), gs.keep TS.out.2 (by omega)⟩
      clear C1 C2
      refine wpAnyL_at (i := 0) (v := (.agg #[.slice x.a x.ts.length x.c, .int .i64 (q.i : Int), .int .i64 (q.d : Int), .int .i64 q.e])) (some 48) rfl rfl (by kernel_rfl) (by kernel_rfl) (by kernel_rfl) (by kernel_rfl) (by decide) (fun _ _ _ h => h) (Or.inl ⟨by rfl, ?_⟩) TS.out ?_
      · intro w hSw
        obtain ⟨hs1, hs2⟩ := hSw
        obtain ⟨⟨e0, e1, e2, e3⟩, _⟩ := four_cells hs1
        obtain ⟨⟨a0, a1, a2, a3, a4⟩, _⟩ := five_cells hs2
        have hbl := World.block_lt_of_cell? _ _ e0
        have hal := World.block_lt_of_cell? _ _ a0
        go_simp
      try simp only [Act.put, List.setIfInBounds_toArray, List.set_cons_zero, List.set_cons_succ]
      refine wpAnyL_at (i := 1) (v := (.agg #[.int .i64 k, .string s, .int .i64 n, .slice ka kl kc, .slice ja jl jc])) (some 49) rfl rfl (by kernel_rfl) (by kernel_rfl) (by kernel_rfl) (by kernel_rfl) (by decide) (fun _ _ _ h => h) (Or.inl ⟨by rfl, ?_⟩) TS.out ?_
      · intro w hSw
        obtain ⟨hs1, hs2⟩ := hSw
        obtain ⟨⟨e0, e1, e2, e3⟩, _⟩ := four_cells hs1
        obtain ⟨⟨a0, a1, a2, a3, a4⟩, _⟩ := five_cells hs2
        have hbl := World.block_lt_of_cell? _ _ e0
        have hal := World.block_lt_of_cell? _ _ a0
        go_simp
      try simp only [Act.put, List.setIfInBounds_toArray, List.set_cons_zero, List.set_cons_succ]
      refine wpAnyL_one (i := 2) (by kernel_rfl) rfl (fun K hK => ?_)
      go_simp
      refine hK.out _ _ (fun _ => TS4.out) ?_
      clear hK K
      try simp only [Act.put, List.setIfInBounds_toArray, List.set_cons_zero, List.set_cons_succ]
      refine wpAnyL_one (i := 3) (by kernel_rfl) rfl (fun K hK => ?_)
      go_simp
      refine hK.out _ _ (fun h => absurd rfl h) ?_
      clear hK K
      try simp only [Act.put, List.setIfInBounds_toArray, List.set_cons_zero, List.set_cons_succ]
      refine wpAnyL_done (by kernel_rfl) ?_ _
      refine NoPanic.normal ?_
      go_wp2_with fail
      rw [Hq2.out]
      clear TS4
      rw [show ((((((((wd.setCell ⟨b + 1, 0, none⟩ (.slice x.a x.ts.length x.c)).setCell ⟨b + 1, 1, none⟩ (.int .i64 (q.i : Int))).setCell ⟨b + 1, 2, none⟩ (.int .i64 (q.d : Int))).setCell ⟨b + 1, 3, none⟩ (.int .i64 q.e)).setCell ⟨b + 1 + 1, 0, none⟩ (.int .i64 k)).setCell ⟨b + 1 + 1, 1, none⟩ (.string s)).setCell ⟨b + 1 + 1, 2, none⟩ (.int .i64 n)).setCell ⟨b + 1 + 1, 3, none⟩ (.slice ka kl kc)).setCell ⟨b + 1 + 1, 4, none⟩ (.slice ja jl jc) = wF from hwF.out]
      clear y0 y1 y2 y3 v0 v1 v2 v3 m0 m1 m2 m3 m4 o0 o1 o2 o3 o4
      have E1' := E1.out
      have E2' : wF.heap[b + 1 + 1]? = some (.cells #[.int .i64 k, .string s, .int .i64 n, .slice ka kl kc, .slice ja jl jc] 30 (0, 0)) := E2.out
      obtain ⟨⟨t0, t1, t2, t3⟩, _⟩ := four_cells E1'
      obtain ⟨⟨s0, s1, s2, s3, s4⟩, _⟩ := five_cells E2'
      refine bodyPost_ret (v := .tuple #[stv x q, trv (k) (s) (n) (.slice ka kl kc) (.slice ja jl jc)]) (by simp [results, Tryz.results62, go_sem, t0, t1, t2, t3, s0, s1, s2, s3, s4]) rfl ⟨k, s, n, ka, kl, kc, ja, jl, jc, rfl, E3.out, hq.out, E4.out⟩
end Go.Proofs.YtggkjkkbkpnkiaaGreatDoor
