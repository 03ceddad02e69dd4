/-
  The reference's comparison.
-/
import Derived.Test.YtggkjkkbkpnkiaaGreatDoorRG
set_option linter.unusedVariables false
set_option linter.unusedSimpArgs false
namespace Go.Proofs.YtggkjkkbkpnkiaaGreatDoor
open Go.RowKit Go.Maps
variable {x : Kx} {W W' : World} {p p' : Ps}
theorem wpAnyL_two {P : Program} {ops : Array Oper} {Q : Exit → Act → World → Prop} {md : Region.Mode} {T : World → Prop} {L i j : Nat} {o o' : Oper} {f : Nat} {listed : Array Bool} {a : Act} {w : World} (hr : Region.ready md ops listed = [i, j]) (ho : ops[i]? = some o) (ho' : ops[j]? = some o')
    (h : ∀ K' : Act → World → Prop, Shut (∀ a w, (i ≠ L → T w) → wpAnyL P md ops Q T L f (listed.setIfInBounds i true) a w → K' a w) → if Region.wanted o (yielded ops a.tmps) = true then Oper.wp P o a w K' Q else K' (a.put o.dst undef) w)
    (h' : ∀ K' : Act → World → Prop, Shut (∀ a w, (j ≠ L → T w) → wpAnyL P md ops Q T L f (listed.setIfInBounds j true) a w → K' a w) → if Region.wanted o' (yielded ops a.tmps) = true then Oper.wp P o' a w K' Q else K' (a.put o'.dst undef) w) : wpAnyL P md ops Q T L (f + 1) listed a w := by
  refine ⟨fun h0 => (by rw [hr] at h0; cases h0), fun k hk => ?_⟩
  rw [hr] at hk
  rcases List.mem_cons.1 hk with rfl | hk
  · exact wpOp_step ho (fun K' hK => h K' (fun a w h1 h2 => hK a w ⟨h1, h2⟩))
  · rw [List.mem_singleton] at hk
    subst hk
    exact wpOp_step ho' (fun K' hK => h' K' (fun a w h1 h2 => hK a w ⟨h1, h2⟩))
/-- What a region that draws reads while it stores: a state and two trees. -/
def RT2 (x : Kx) (b ab cb : Nat) (q : Ps) (k : Int) (s : ByteArray) (n : Int) (bv lv : Value) (k' : Int) (s' : ByteArray) (n' : Int) (bv' lv' : Value) (w : World) : Prop :=
  w.heap[b]? = some (stb x q) ∧ w.heap[ab]? = some (.cells #[.int .i64 k, .string s, .int .i64 n, bv, lv] 30 (0, 0)) ∧ w.heap[cb]? = some (.cells #[.int .i64 k', .string s', .int .i64 n', bv', lv'] 30 (0, 0))
theorem RT2.gr {S : Nat → Prop} {b ab cb : Nat} {q : Ps} {k n k' n' : Int} {s s' : ByteArray} {bv lv bv' lv' : Value} (h : RT2 x b ab cb q k s n bv lv k' s' n' bv' lv' W) (g : Gr S W W') (h1 : ¬ S b) (h2 : ¬ S ab) (h3 : ¬ S cb) : RT2 x b ab cb q k s n bv lv k' s' n' bv' lv' W' :=
  ⟨g.keep h.1 h1, g.keep h.2.1 h2, g.keep h.2.2 h3⟩
/-- The end, where a row has been made for the tree. -/
theorem end3n {w : World} {b : Nat} {q : Ps} {T : Tr} {k n : Int} {s : ByteArray} {bv lv : Value} {x0 x1 x2 x3 y0 y1 y2 y3 y4 : Value} {o : Obj} (G : Gr (fun _ => False) W w) (hb : W.heap.size = b) (h1 : w.heap[b + 1]? = some (.cells #[x0, x1, x2, x3] 45 (0, 0))) (h2 : w.heap[b + 2]? = some (.cells #[y0, y1, y2, y3, y4] 30 (0, 0)))
    (hR : q.e = 0 → Rep (fun z => b + 3 ≤ z) (w.alloc o) T (trv k s n bv lv)) {X : World}
    (hX : (set5 (set4 w (b + 1) (.slice x.a x.ts.length x.c) (.int .i64 (q.i : Int)) (.int .i64 (q.d : Int)) (.int .i64 q.e)) (b + 2) (.int .i64 k) (.string s) (.int .i64 n) bv lv).alloc o = X) :
    X.heap[b + 1]? = some (stb x q) ∧ X.heap[b + 2]? = some (.cells #[.int .i64 k, .string s, .int .i64 n, bv, lv] 30 (0, 0)) ∧ (q.e = 0 → Rep (fun z => W.heap.size ≤ z) X T (trv k s n bv lv)) ∧ Gr (fun _ => False) W X := by
  have ga := Gr.alloc w o (fun _ => False)
  have hl2 : b + 2 < w.heap.size := (Array.getElem?_eq_some_iff.1 h2).1
  have hl1 : b + 1 < w.heap.size := by omega
  have h := end3 (x := x) (q := q) (T := T) (k := k) (s := s) (n := n) (bv := bv) (lv := lv) (G.trans ga) hb (ga.keep h1 (fun e => e)) (ga.keep h2 (fun e => e)) hR
  have e : set5 (set4 (w.alloc o) (b + 1) (.slice x.a x.ts.length x.c) (.int .i64 (q.i : Int)) (.int .i64 (q.d : Int)) (.int .i64 q.e)) (b + 2) (.int .i64 k) (.string s) (.int .i64 n) bv lv = X := by
    rw [← hX]
    unfold set4 set5
    simp [go_sem, hl1, hl2]
  rw [e] at h
  exact h
set_option maxRecDepth 100000 in
set_option maxHeartbeats 1200000 in
theorem rcmp_c (d : Nat) (g : Rule) (hg : COk x 1 d g) : ROk x 51 d (joinV x.ts (sgsOf 0) g 1) := by
  intro W p h hd
  obtain ⟨r, hr⟩ : ∃ r, r = joinV x.ts (sgsOf 0) g 1 p := ⟨_, rfl⟩
  rw [← hr]
  have Hr : Hid (r = joinL x.ts (sgsOf 0) g 1 (g p).1 (g p).2) := hr
  clear hr
  obtain ⟨g0, b0, b1, b2, hz0⟩ := open3 (x := x) W p
  obtain ⟨b, hb⟩ : ∃ b, W.heap.size = b := ⟨_, rfl⟩
  have Hd := Lib.hid hd
  have hbW := Lib.hid hb
  have hNb : Hid (x.N ≤ b) := by have := h.hN; show _ ≤ _; omega
  have hcall := hg _ p (h.g0 g0) hd
  have R0 := Lib.hid (h.g0 g0)
  clear hd h
  go_enter Tryz.func51, Tryz.ntmps51
  go_wp2_with fail
  generalize ((W.alloc _).alloc _).alloc _ = W1 at g0 b0 b1 b2 hz0 hcall R0 ⊢
  rw [hb] at b0 b1 b2 hz0
  refine hcall.mono ?_
  rintro e w2 ⟨tk, tt, tn, a1, n1, c1, a2, n2, c2, rfl, rep2, hi2, g2⟩
  generalize (g p).2 = q at Hr rep2 hi2 ⊢
  generalize (g p).1 = T at Hr rep2 ⊢
  have C0 := Lib.hid (g2.keep b0 (fun e => e))
  have C1 := Lib.hid (g2.keep b1 (fun e => e))
  have C2 := Lib.hid (g2.keep b2 (fun e => e))
  have R2 := Lib.hid (R0.out.g0 g2)
  have G2' := Lib.hid (g0.trans g2)
  have Hrep2 := Lib.hid rep2
  have Hi2 := Lib.hid hi2
  have hs2 : b + 3 ≤ w2.heap.size := by have := g2.size; omega
  obtain ⟨⟨c0, c1', c2', c3⟩, f0, f1, f2, f3⟩ := four_cells C0.out
  have hl0 : b < w2.heap.size := by omega
  clear b0 b1 b2 g0 rep2 hi2 hcall g2
  go_wp2_with fail
  generalize hX : World.alloc (set4 w2 b (.slice x.a x.ts.length x.c) (.int .i64 (q.i : Int)) (.int .i64 (q.d : Int)) (.int .i64 q.e)) _ = X
  obtain ⟨gX, X0, XA, XT⟩ := chain_y (x := x) (T := T) hs2 C0.out (fun he => (Hrep2.out he).turn (fun z hz hl => ⟨by have h9 : W1.heap.size ≤ z := hz; show b + 3 ≤ z; omega, rfl⟩)) hX
  obtain ⟨ab, hab⟩ : ∃ ab, w2.heap.size = ab := ⟨_, rfl⟩
  clear hX c0 c1' c2' c3 f0 f1 f2 f3
  rw [hab] at XA XT hs2 ⊢
  have RX : Rz x X q := (R2.out.gr gX (fun k hk e => by have := hNb.out; omega)).to Hi2.out.2.2 (by rw [Hi2.out.1]; exact R2.out.hd)
  have X1 := gX.keep C1.out (by omega)
  have X2 := gX.keep C2.out (by omega)
  have GX := Lib.hid (G2'.out.trans' gX (fun k hk e => by have := hbW.out; omega))
  refine (rjoins_c RX 0).mono ?_
  rintro e w3 ⟨rfl, g3⟩
  have S0 := g3.keep X0 (fun e => e)
  have S1 := Lib.hid (g3.keep X1 (fun e => e))
  have S2 := Lib.hid (g3.keep X2 (fun e => e))
  have SA := g3.keep XA (fun e => e)
  have RS := Lib.hid (RX.g0 g3)
  have GS := Lib.hid (GX.out.trans g3)
  have ST : Hid (q.e = 0 → Rep (fun z => b + 3 ≤ z ∧ z ≠ ab) w3 T (trv tk tt tn (.slice a1 n1 c1) (.slice a2 n2 c2))) := fun he => (XT he).turn (fun z hz hl => ⟨hz, g3.block z hl (fun e => e)⟩)
  have hab3 : Hid (b + 3 ≤ ab) := hs2
  clear X0 X1 X2 XA XT RX GX gX g3 C0 C1 C2 hab hs2 hl0
  have hqI : (q.i : Int) ≤ 100000 := by have := Hi2.out; have := RS.out.hm; omega
  have habl : ab < w3.heap.size := (Array.getElem?_eq_some_iff.1 SA).1
  have hbl : b < w3.heap.size := (Array.getElem?_eq_some_iff.1 S0).1
  clear R0 R2 G2' Hrep2
  cases hav : (sgsOf 0).any (isV x.ts q) with
  | true =>
    obtain ⟨hj1, hj2⟩ := joins_yes hav
    have hlt := Lib.hid (any_lt' hav)
    have Hq2 : Hid (r = (.mk 8 (joinsV x.ts 0 q) 0 [] [T, (g q.next).1], (g q.next).2)) := by
      show r = _
      rw [Hr.out, joinL, if_pos hav, hj1]
      rfl
    have hne := ne_e0 hj2
    generalize joinsV x.ts 0 q = sg at Hq2 hne ⊢
    obtain ⟨⟨c0, c1', c2', c3⟩, f0, f1, f2, f3⟩ := four_cells S0
    have gs : Gr (fun k => k = b) w3 (w3.setCell ⟨b, 1, none⟩ (.int .i64 ((q.i : Int) + 1))) := Gr.set _ _ _ rfl
    have P0 : Hid ((w3.setCell ⟨b, 1, none⟩ (.int .i64 ((q.i : Int) + 1))).heap[b]? = some (stb x q.next)) := heap_setCell_same w3 b 1 _ 45 _ S0
    have P1 := Lib.hid (gs.keep S1.out (by omega))
    have P2 := Lib.hid (gs.keep S2.out (by omega))
    have PA := Lib.hid (gs.keep SA (by have := hab3.out; omega))
    have PT : Hid (q.e = 0 → Rep (fun z => b + 3 ≤ z ∧ z ≠ ab) (w3.setCell ⟨b, 1, none⟩ (.int .i64 ((q.i : Int) + 1))) T (trv tk tt tn (.slice a1 n1 c1) (.slice a2 n2 c2))) := fun he => (ST.out he).turn (fun z hz hl => ⟨hz, gs.block z hl (by have := hz.1; omega)⟩)
    have R3 : Hid (Rz x (w3.setCell ⟨b, 1, none⟩ (.int .i64 ((q.i : Int) + 1))) q.next) := (RS.out.gr gs (fun k hk e => by have := hNb.out; omega)).to (by show q.i + 1 ≤ _; have := hlt.out; omega) RS.out.hd
    have G3 := Lib.hid (GS.out.trans' gs (fun k hk e => by have := hbW.out; omega))
    have hcall := Lib.hid (hg _ q.next R3.out (by show q.d = d; rw [Hi2.out.1]; exact Hd.out))
    have hsz3 : Hid (ab < (w3.setCell ⟨b, 1, none⟩ (.int .i64 ((q.i : Int) + 1))).heap.size) := by show _ < _; simpa using habl
    clear hav hj1 hj2 gs S0 S1 S2 SA ST RS GS Hr
    go_wp2_with fail
    generalize w3.setCell ⟨b, 1, none⟩ _ = wr at P0 P1 P2 PA PT R3 G3 hcall hsz3 ⊢
    refine hcall.out.mono ?_
    rintro e w4 ⟨uk, ut, un, pa, pl, pc, qa, ql, qc, rfl, rep4, hi4, g4⟩
    generalize (g q.next).2 = q' at Hq2 rep4 hi4 ⊢
    generalize (g q.next).1 = T' at Hq2 rep4 ⊢
    have D0 := Lib.hid (g4.keep P0.out (fun e => e))
    have D1 := Lib.hid (g4.keep P1.out (fun e => e))
    have D2 := Lib.hid (g4.keep P2.out (fun e => e))
    have DA := Lib.hid (g4.keep PA.out (fun e => e))
    have G4 := Lib.hid (G3.out.trans g4)
    have hl4 : Hid (ab < w4.heap.size) := (Array.getElem?_eq_some_iff.1 DA.out).1
    have hl4' : b < w4.heap.size := (Array.getElem?_eq_some_iff.1 D0.out).1
    have T4 : Hid (q'.e = 0 → Rep (fun z => b + 3 ≤ z) w4 T (trv tk tt tn (.slice a1 n1 c1) (.slice a2 n2 c2))) := fun _ => (PT.out hlt.out.1).turn (fun z hz hl => ⟨hz.1, g4.block z hl (fun e => e)⟩)
    have U4 : Hid (q'.e = 0 → Rep (fun z => b + 3 ≤ z) w4 T' (trv uk ut un (.slice pa pl pc) (.slice qa ql qc))) := fun he => (rep4 he).turn (fun z hz hl => ⟨by have h9 : wr.heap.size ≤ z := hz; have := hsz3.out; have := hab3.out; show b + 3 ≤ z; omega, rfl⟩)
    have Hi4 := Lib.hid hi4
    have hs4 : b + 3 ≤ w4.heap.size := by have := hl4.out; have := hab3.out; omega
    obtain ⟨⟨x0, x1, x2, x3⟩, v0, v1, v2, v3⟩ := four_cells D0.out
    clear c0 c1' c2' c3 f0 f1 f2 f3 rep4 hi4 hcall P0 P1 P2 PA PT R3 G3 g4 hbl habl hsz3
    go_wp2_with fail
    generalize hX : World.alloc (set4 w4 b (.slice x.a x.ts.length x.c) (.int .i64 (q'.i : Int)) (.int .i64 (q'.d : Int)) (.int .i64 q'.e)) _ = X
    obtain ⟨gX, X0, XC, XU⟩ := chain_y (x := x) (T := T') hs4 D0.out U4.out hX
    obtain ⟨cb, hcb⟩ : ∃ cb, w4.heap.size = cb := ⟨_, rfl⟩
    clear hX x0 x1 x2 x3 v0 v1 v2 v3
    have XA := gX.keep DA.out (by have := hab3.out; omega)
    have X1 := gX.keep D1.out (by omega)
    have X2 := gX.keep D2.out (by omega)
    have XT : q'.e = 0 → Rep (fun z => b + 3 ≤ z) X T (trv tk tt tn (.slice a1 n1 c1) (.slice a2 n2 c2)) := fun he => (T4.out he).turn (fun z hz hl => ⟨hz, gX.block z hl (by have h9 : b + 3 ≤ z := hz; omega)⟩)
    have GX := G4.out.trans' gX (fun k hk e => by have := hbW.out; omega)
    rw [hcb] at XC XU ⊢
    have Bd0 : Hid (X.drew.heap[b]? = some (stb x q')) := X0
    have C1 : X.drew.heap[b + 1]? = some zs := X1
    have C2 : X.drew.heap[b + 2]? = some zt := X2
    have TS : Hid (RT2 x b ab cb q' tk tt tn (.slice a1 n1 c1) (.slice a2 n2 c2) uk ut un (.slice pa pl pc) (.slice qa ql qc) X.drew) := ⟨X0, XA, XC⟩
    have BT : q'.e = 0 → Rep (fun z => b + 3 ≤ z) X.drew T (trv tk tt tn (.slice a1 n1 c1) (.slice a2 n2 c2)) := fun he => (XT he).turn (fun z hz hl => ⟨hz, rfl⟩)
    have BU : q'.e = 0 → Rep (fun z => b + 3 ≤ z) X.drew T' (trv uk ut un (.slice pa pl pc) (.slice qa ql qc)) := fun he => (XU he).turn (fun z hz hl => ⟨hz.1, rfl⟩)
    have Gd := GX.trans (Gr.drew X _)
    have hbs : b + 3 ≤ X.drew.heap.size := by
      have := (Array.getElem?_eq_some_iff.1 XA).1
      have h3 := hab3.out
      show b + 3 ≤ X.heap.size
      omega
    have hcb3 : Hid (b + 3 ≤ cb) := by show _ ≤ _; omega
    refine wp_region_L (T := RT2 x b ab cb q' tk tt tn (.slice a1 n1 c1) (.slice a2 n2 c2) uk ut un (.slice pa pl pc) (.slice qa ql qc)) (L := 7) (by kernel_rfl) ?_
    clear X0 X1 X2 XA XC XT XU GX gX Bd0
    generalize X.drew = wd at TS C1 C2 BT BU Gd hbs ⊢
    have hN : q'.e = 0 → Rep (fun z => b + 3 ≤ z) (wd.alloc (.cells #[.int .i64 tk, .string tt, .int .i64 tn, .slice a1 n1 c1, .slice a2 n2 c2, .int .i64 uk, .string ut, .int .i64 un, .slice pa pl pc, .slice qa ql qc] 30)) (.mk 8 sg 0 [] [T, T']) (trv 8 sg 0 nl (.slice (some ⟨wd.heap.size, 0, none⟩) 2 2)) := fun he => node2_rep 8 sg (BT he) (BU he) hbs
    obtain ⟨wF, hwF⟩ : ∃ wF, (set5 (set4 wd (b + 1) (.slice x.a x.ts.length x.c) (.int .i64 (q'.i : Int)) (.int .i64 (q'.d : Int)) (.int .i64 q'.e)) (b + 2) (.int .i64 8) (.string sg) (.int .i64 0) nl (.slice (some ⟨wd.heap.size, 0, none⟩) 2 2)).alloc (.cells #[.int .i64 tk, .string tt, .int .i64 tn, .slice a1 n1 c1, .slice a2 n2 c2, .int .i64 uk, .string ut, .int .i64 un, .slice pa pl pc, .slice qa ql qc] 30) = wF := ⟨_, rfl⟩
    obtain ⟨E1, E2, E3, E4⟩ := end3n (x := x) Gd hbW.out C1 C2 hN hwF
    replace E1 := Lib.hid E1
    replace E2 := Lib.hid E2
    replace E3 := Lib.hid E3
    replace E4 := Lib.hid E4
    replace hwF := Lib.hid hwF
    obtain ⟨⟨y0, y1, y2, y3⟩, v0, v1, v2, v3⟩ := four_cells C1
    obtain ⟨⟨m0, m1, m2, m3, m4⟩, o0, o1, o2, o3, o4⟩ := five_cells C2
    have hlz : b + 2 < wd.heap.size := (Array.getElem?_eq_some_iff.1 C2).1
    have hlz' : b + 1 < wd.heap.size := by omega
    have hqF : Hid (q'.d = p.d ∧ p.i ≤ q'.i ∧ q'.i ≤ x.ts.length) := by
      have h6 : q.i + 1 ≤ q'.i := Hi4.out.2.1
      have h7 : q'.d = q.d := Hi4.out.1
      have h8 := Hi2.out
      exact ⟨by omega, by omega, Hi4.out.2.2⟩
    have TA : Hid (RT2 x b ab cb q' tk tt tn (.slice a1 n1 c1) (.slice a2 n2 c2) uk ut un (.slice pa pl pc) (.slice qa ql qc) (wd.alloc (.cells #[.int .i64 tk, .string tt, .int .i64 tn, .slice a1 n1 c1, .slice a2 n2 c2, .int .i64 uk, .string ut, .int .i64 un, .slice pa pl pc, .slice qa ql qc] 30))) := TS.out.gr (Gr.alloc _ _ (fun _ => False)) (fun e => e) (fun e => e) (fun e => e)
    have T4 : Hid (RT2 x b ab cb q' tk tt tn (.slice a1 n1 c1) (.slice a2 n2 c2) uk ut un (.slice pa pl pc) (.slice qa ql qc) (set4 wd (b + 1) (.slice x.a x.ts.length x.c) (.int .i64 (q'.i : Int)) (.int .i64 (q'.d : Int)) (.int .i64 q'.e))) := by
      have h3 := hab3.out
      have h4 := hcb3.out
      exact TS.out.gr (set4_gr wd (b + 1) _ _ _ _) (by omega) (by omega) (by omega)
    have T5 : Hid (RT2 x b ab cb q' tk tt tn (.slice a1 n1 c1) (.slice a2 n2 c2) uk ut un (.slice pa pl pc) (.slice qa ql qc) ((set4 wd (b + 1) (.slice x.a x.ts.length x.c) (.int .i64 (q'.i : Int)) (.int .i64 (q'.d : Int)) (.int .i64 q'.e)).alloc (.cells #[.int .i64 tk, .string tt, .int .i64 tn, .slice a1 n1 c1, .slice a2 n2 c2, .int .i64 uk, .string ut, .int .i64 un, .slice pa pl pc, .slice qa ql qc] 30))) := T4.out.gr (Gr.alloc _ _ (fun _ => False)) (fun e => e) (fun e => e) (fun e => e)
    clear C1 C2 BT BU Gd hbs hN
    refine wpAnyL_at (i := 0) (v := (.agg #[.slice x.a x.ts.length x.c, .int .i64 (q'.i : Int), .int .i64 (q'.d : Int), .int .i64 q'.e])) (some 27) rfl rfl (by kernel_rfl) (by kernel_rfl) (by kernel_rfl) (by kernel_rfl) (by decide) (fun _ _ _ h => h) (Or.inl ⟨by rfl, ?_⟩) TS.out ?_
    · intro w hSw
      obtain ⟨hs1, hs2, hs3⟩ := hSw
      obtain ⟨⟨e0', e1, e2, e3⟩, _⟩ := four_cells hs1
      obtain ⟨⟨a0, a1', a2', a3, a4⟩, _⟩ := five_cells hs2
      obtain ⟨⟨d0, d1, d2, d3, d4⟩, _⟩ := five_cells hs3
      have hbl := World.block_lt_of_cell? _ _ e0'
      have hal := World.block_lt_of_cell? _ _ a0
      have hcl := World.block_lt_of_cell? _ _ d0
      go_simp
    try simp only [Act.put, List.setIfInBounds_toArray, List.set_cons_zero, List.set_cons_succ]
    refine wpAnyL_at (i := 1) (v := (.string sg)) (some 28) rfl rfl (by kernel_rfl) (by kernel_rfl) (by kernel_rfl) (by kernel_rfl) (by decide) (fun _ _ _ h => h) (Or.inl ⟨by rfl, ?_⟩) TS.out ?_
    · intro w hSw
      go_simp
    try simp only [Act.put, List.setIfInBounds_toArray, List.set_cons_zero, List.set_cons_succ]
    refine wpAnyL_at (i := 2) (v := (.agg #[.int .i64 tk, .string tt, .int .i64 tn, .slice a1 n1 c1, .slice a2 n2 c2])) (some 29) rfl rfl (by kernel_rfl) (by kernel_rfl) (by kernel_rfl) (by kernel_rfl) (by decide) (fun _ _ _ h => h) (Or.inl ⟨by rfl, ?_⟩) TS.out ?_
    · intro w hSw
      obtain ⟨hs1, hs2, hs3⟩ := hSw
      obtain ⟨⟨e0', e1, e2, e3⟩, _⟩ := four_cells hs1
      obtain ⟨⟨a0, a1', a2', a3, a4⟩, _⟩ := five_cells hs2
      obtain ⟨⟨d0, d1, d2, d3, d4⟩, _⟩ := five_cells hs3
      have hbl := World.block_lt_of_cell? _ _ e0'
      have hal := World.block_lt_of_cell? _ _ a0
      have hcl := World.block_lt_of_cell? _ _ d0
      go_simp
    try simp only [Act.put, List.setIfInBounds_toArray, List.set_cons_zero, List.set_cons_succ]
    refine wpAnyL_at (i := 3) (v := (.agg #[.int .i64 uk, .string ut, .int .i64 un, .slice pa pl pc, .slice qa ql qc])) (some 30) rfl rfl (by kernel_rfl) (by kernel_rfl) (by kernel_rfl) (by kernel_rfl) (by decide) (fun _ _ _ h => h) (Or.inl ⟨by rfl, ?_⟩) TS.out ?_
    · intro w hSw
      obtain ⟨hs1, hs2, hs3⟩ := hSw
      obtain ⟨⟨e0', e1, e2, e3⟩, _⟩ := four_cells hs1
      obtain ⟨⟨a0, a1', a2', a3, a4⟩, _⟩ := five_cells hs2
      obtain ⟨⟨d0, d1, d2, d3, d4⟩, _⟩ := five_cells hs3
      have hbl := World.block_lt_of_cell? _ _ e0'
      have hal := World.block_lt_of_cell? _ _ a0
      have hcl := World.block_lt_of_cell? _ _ d0
      go_simp
    try simp only [Act.put, List.setIfInBounds_toArray, List.set_cons_zero, List.set_cons_succ]
    refine wpAnyL_two (i := 4) (j := 6) (by kernel_rfl) rfl rfl (fun K hK => ?_) (fun K hK => ?_)
    · go_simp
      refine hK.out _ _ (fun _ => TA.out) ?_
      clear hK K
      try simp only [Act.put, List.setIfInBounds_toArray, List.set_cons_zero, List.set_cons_succ]
      refine wpAnyL_at (i := 5) (v := (.agg #[.int .i64 8, .string sg, .int .i64 0, nl, (.slice (some ⟨wd.heap.size, 0, none⟩) 2 2)])) (some 32) rfl rfl (by kernel_rfl) (by kernel_rfl) (by kernel_rfl) (by kernel_rfl) (by decide) (fun _ _ _ h => h) (Or.inl ⟨by rfl, ?_⟩) TA.out ?_
      · intro w hSw
        go_simp
      try simp only [Act.put, List.setIfInBounds_toArray, List.set_cons_zero, List.set_cons_succ]
      refine wpAnyL_one (i := 6) (by kernel_rfl) rfl (fun K hK => ?_)
      go_simp
      refine hK.out _ _ (fun _ => T5.out) ?_
      clear hK K
      try simp only [Act.put, List.setIfInBounds_toArray, List.set_cons_zero, List.set_cons_succ]
      refine wpAnyL_one (i := 7) (by kernel_rfl) rfl (fun K hK => ?_)
      go_simp
      refine hK.out _ _ (fun h => absurd rfl h) ?_
      clear hK K
      try simp only [Act.put, List.setIfInBounds_toArray, List.set_cons_zero, List.set_cons_succ]
      refine wpAnyL_done (by kernel_rfl) ?_ _
      refine NoPanic.normal ?_
      go_wp2_with fail
      rw [Hq2.out]
      rw [show (((((((((wd.setCell ⟨b + 1, 0, none⟩ (.slice x.a x.ts.length x.c)).setCell ⟨b + 1, 1, none⟩ (.int .i64 (q'.i : Int))).setCell ⟨b + 1, 2, none⟩ (.int .i64 (q'.d : Int))).setCell ⟨b + 1, 3, none⟩ (.int .i64 q'.e)).setCell ⟨b + 1 + 1, 0, none⟩ (.int .i64 8)).setCell ⟨b + 1 + 1, 1, none⟩ (.string sg)).setCell ⟨b + 1 + 1, 2, none⟩ (.int .i64 0)).setCell ⟨b + 1 + 1, 3, none⟩ (nl)).setCell ⟨b + 1 + 1, 4, none⟩ (.slice (some ⟨wd.heap.size, 0, none⟩) 2 2)).alloc (.cells #[.int .i64 tk, .string tt, .int .i64 tn, .slice a1 n1 c1, .slice a2 n2 c2, .int .i64 uk, .string ut, .int .i64 un, .slice pa pl pc, .slice qa ql qc] 30) = wF from hwF.out]
      clear y0 y1 y2 y3 v0 v1 v2 v3 m0 m1 m2 m3 m4 o0 o1 o2 o3 o4
      have E1' := E1.out
      have E2' : wF.heap[b + 1 + 1]? = some (.cells #[.int .i64 8, .string sg, .int .i64 0, nl, (.slice (some ⟨wd.heap.size, 0, none⟩) 2 2)] 30 (0, 0)) := E2.out
      obtain ⟨⟨t0, t1, t2, t3⟩, _⟩ := four_cells E1'
      obtain ⟨⟨s0, s1, s2, s3, s4⟩, _⟩ := five_cells E2'
      refine bodyPost_ret (v := .tuple #[stv x q', trv 8 sg 0 nl (.slice (some ⟨wd.heap.size, 0, none⟩) 2 2)]) (by simp [results, Tryz.results51, go_sem, t0, t1, t2, t3, s0, s1, s2, s3, s4]) rfl ⟨8, sg, 0, none, 0, 0, some ⟨wd.heap.size, 0, none⟩, 2, 2, rfl, E3.out, hqF.out, E4.out⟩
    · go_simp
      refine hK.out _ _ (fun _ => T4.out) ?_
      clear hK K
      try simp only [Act.put, List.setIfInBounds_toArray, List.set_cons_zero, List.set_cons_succ]
      refine wpAnyL_one (i := 4) (by kernel_rfl) rfl (fun K hK => ?_)
      go_simp
      refine hK.out _ _ (fun _ => T5.out) ?_
      clear hK K
      try simp only [Act.put, List.setIfInBounds_toArray, List.set_cons_zero, List.set_cons_succ]
      refine wpAnyL_one (i := 5) (by kernel_rfl) rfl (fun K hK => ?_)
      go_simp
      refine hK.out _ _ (fun _ => T5.out) ?_
      clear hK K
      try simp only [Act.put, List.setIfInBounds_toArray, List.set_cons_zero, List.set_cons_succ]
      refine wpAnyL_one (i := 7) (by kernel_rfl) rfl (fun K hK => ?_)
      go_simp
      refine hK.out _ _ (fun h => absurd rfl h) ?_
      clear hK K
      try simp only [Act.put, List.setIfInBounds_toArray, List.set_cons_zero, List.set_cons_succ]
      refine wpAnyL_done (by kernel_rfl) ?_ _
      refine NoPanic.normal ?_
      go_wp2_with fail
      rw [Hq2.out]
      rw [show (((((((((wd.setCell ⟨b + 1, 0, none⟩ (.slice x.a x.ts.length x.c)).setCell ⟨b + 1, 1, none⟩ (.int .i64 (q'.i : Int))).setCell ⟨b + 1, 2, none⟩ (.int .i64 (q'.d : Int))).setCell ⟨b + 1, 3, none⟩ (.int .i64 q'.e)).setCell ⟨b + 1 + 1, 0, none⟩ (.int .i64 8)).setCell ⟨b + 1 + 1, 1, none⟩ (.string sg)).setCell ⟨b + 1 + 1, 2, none⟩ (.int .i64 0)).setCell ⟨b + 1 + 1, 3, none⟩ (nl)).setCell ⟨b + 1 + 1, 4, none⟩ (.slice (some ⟨wd.heap.size, 0, none⟩) 2 2)).alloc (.cells #[.int .i64 tk, .string tt, .int .i64 tn, .slice a1 n1 c1, .slice a2 n2 c2, .int .i64 uk, .string ut, .int .i64 un, .slice pa pl pc, .slice qa ql qc] 30) = wF from hwF.out]
      clear y0 y1 y2 y3 v0 v1 v2 v3 m0 m1 m2 m3 m4 o0 o1 o2 o3 o4
      have E1' := E1.out
      have E2' : wF.heap[b + 1 + 1]? = some (.cells #[.int .i64 8, .string sg, .int .i64 0, nl, (.slice (some ⟨wd.heap.size, 0, none⟩) 2 2)] 30 (0, 0)) := E2.out
      obtain ⟨⟨t0, t1, t2, t3⟩, _⟩ := four_cells E1'
      obtain ⟨⟨s0, s1, s2, s3, s4⟩, _⟩ := five_cells E2'
      refine bodyPost_ret (v := .tuple #[stv x q', trv 8 sg 0 nl (.slice (some ⟨wd.heap.size, 0, none⟩) 2 2)]) (by simp [results, Tryz.results51, go_sem, t0, t1, t2, t3, s0, s1, s2, s3, s4]) rfl ⟨8, sg, 0, none, 0, 0, some ⟨wd.heap.size, 0, none⟩, 2, 2, rfl, E3.out, hqF.out, E4.out⟩
  | false =>
    have hj := joins_no hav
    have Hq2 : Hid (r = (T, q)) := by
      show r = _
      rw [Hr.out, joinL, if_neg (by simp [hav])]
    rw [hj]
    have Bd0 : Hid (w3.drew.heap[b]? = some (stb x q)) := S0
    have Bd1 : Hid (w3.drew.heap[b + 1]? = some zs) := S1.out
    have Bd2 : Hid (w3.drew.heap[b + 2]? = some zt) := S2.out
    have BdA : Hid (w3.drew.heap[ab]? = some (.cells #[.int .i64 tk, .string tt, .int .i64 tn, .slice a1 n1 c1, .slice a2 n2 c2] 30 (0, 0))) := SA
    have BTd : Hid (q.e = 0 → Rep (fun z => b + 3 ≤ z) w3.drew T (trv tk tt tn (.slice a1 n1 c1) (.slice a2 n2 c2))) := fun he => (ST.out he).turn (fun z hz hl => ⟨hz.1, rfl⟩)
    have Gd := Lib.hid (GS.out.trans (Gr.drew w3 _))
    clear hav hj S0 S1 S2 SA ST RS GS Hr habl hbl hqI
    go_wp2_with fail
    refine wp_region_L (T := RT x b ab q tk tt tn (.slice a1 n1 c1) (.slice a2 n2 c2)) (L := 3) (by kernel_rfl) ?_
    have TS : Hid (RT x b ab q tk tt tn (.slice a1 n1 c1) (.slice a2 n2 c2) w3.drew) := ⟨Bd0.out, BdA.out⟩
    have C1 := Bd1.out
    have C2 := Bd2.out
    generalize w3.drew = wd at TS C1 C2 BTd Gd ⊢
    clear Bd0 Bd1 Bd2 BdA
    obtain ⟨E1, E2, E3, E4⟩ := end3 (x := x) (q := q) (T := T) (k := tk) (s := tt) (n := tn) (bv := .slice a1 n1 c1) (lv := .slice a2 n2 c2) (Gd.out) hbW.out C1 C2 (BTd.out)
    obtain ⟨wF, hwF⟩ : ∃ wF, set5 (set4 wd (b + 1) (.slice x.a x.ts.length x.c) (.int .i64 (q.i : Int)) (.int .i64 (q.d : Int)) (.int .i64 q.e)) (b + 2) (.int .i64 tk) (.string tt) (.int .i64 tn) (.slice a1 n1 c1) (.slice a2 n2 c2) = wF := ⟨_, rfl⟩
    rw [hwF] at E1 E2 E3 E4
    replace E1 := Lib.hid E1
    replace E2 := Lib.hid E2
    replace E3 := Lib.hid E3
    replace E4 := Lib.hid E4
    replace hwF := Lib.hid hwF
    obtain ⟨⟨y0, y1, y2, y3⟩, v0, v1, v2, v3⟩ := four_cells C1
    obtain ⟨⟨m0, m1, m2, m3, m4⟩, o0, o1, o2, o3, o4⟩ := five_cells C2
    have hlz : b + 2 < wd.heap.size := (Array.getElem?_eq_some_iff.1 C2).1
    have hlz' : b + 1 < wd.heap.size := by omega
    have TS4 : Hid (RT x b ab q tk tt tn (.slice a1 n1 c1) (.slice a2 n2 c2) (set4 wd (b + 1) (.slice x.a x.ts.length x.c) (.int .i64 (q.i : Int)) (.int .i64 (q.d : Int)) (.int .i64 q.e))) := by
      have gs := set4_gr wd (b + 1) (.slice x.a x.ts.length x.c) (.int .i64 (q.i : Int)) (.int .i64 (q.d : Int)) (.int .i64 q.e)
      have h3 := hab3.out
      exact ⟨gs.keep TS.out.1 (by omega), gs.keep TS.out.2 (by omega)⟩
    clear C1 C2
    refine wpAnyL_at (i := 0) (v := (.agg #[.slice x.a x.ts.length x.c, .int .i64 (q.i : Int), .int .i64 (q.d : Int), .int .i64 q.e])) (some 16) rfl rfl (by kernel_rfl) (by kernel_rfl) (by kernel_rfl) (by kernel_rfl) (by decide) (fun _ _ _ h => h) (Or.inl ⟨by rfl, ?_⟩) TS.out ?_
    · intro w hSw
      obtain ⟨hs1, hs2⟩ := hSw
      obtain ⟨⟨e0, e1, e2, e3⟩, _⟩ := four_cells hs1
      obtain ⟨⟨a0, a1, a2, a3, a4⟩, _⟩ := five_cells hs2
      have hbl := World.block_lt_of_cell? _ _ e0
      have hal := World.block_lt_of_cell? _ _ a0
      go_simp
    try simp only [Act.put, List.setIfInBounds_toArray, List.set_cons_zero, List.set_cons_succ]
    refine wpAnyL_at (i := 1) (v := (.agg #[.int .i64 tk, .string tt, .int .i64 tn, .slice a1 n1 c1, .slice a2 n2 c2])) (some 17) rfl rfl (by kernel_rfl) (by kernel_rfl) (by kernel_rfl) (by kernel_rfl) (by decide) (fun _ _ _ h => h) (Or.inl ⟨by rfl, ?_⟩) TS.out ?_
    · intro w hSw
      obtain ⟨hs1, hs2⟩ := hSw
      obtain ⟨⟨e0, e1, e2, e3⟩, _⟩ := four_cells hs1
      obtain ⟨⟨a0, a1, a2, a3, a4⟩, _⟩ := five_cells hs2
      have hbl := World.block_lt_of_cell? _ _ e0
      have hal := World.block_lt_of_cell? _ _ a0
      go_simp
    try simp only [Act.put, List.setIfInBounds_toArray, List.set_cons_zero, List.set_cons_succ]
    refine wpAnyL_one (i := 2) (by kernel_rfl) rfl (fun K hK => ?_)
    go_simp
    refine hK.out _ _ (fun _ => TS4.out) ?_
    clear hK K
    try simp only [Act.put, List.setIfInBounds_toArray, List.set_cons_zero, List.set_cons_succ]
    refine wpAnyL_one (i := 3) (by kernel_rfl) rfl (fun K hK => ?_)
    go_simp
    refine hK.out _ _ (fun h => absurd rfl h) ?_
    clear hK K
    try simp only [Act.put, List.setIfInBounds_toArray, List.set_cons_zero, List.set_cons_succ]
    refine wpAnyL_done (by kernel_rfl) ?_ _
    refine NoPanic.normal ?_
    go_wp2_with fail
    rw [Hq2.out]
    clear TS4
    rw [show ((((((((wd.setCell ⟨b + 1, 0, none⟩ (.slice x.a x.ts.length x.c)).setCell ⟨b + 1, 1, none⟩ (.int .i64 (q.i : Int))).setCell ⟨b + 1, 2, none⟩ (.int .i64 (q.d : Int))).setCell ⟨b + 1, 3, none⟩ (.int .i64 q.e)).setCell ⟨b + 1 + 1, 0, none⟩ (.int .i64 tk)).setCell ⟨b + 1 + 1, 1, none⟩ (.string tt)).setCell ⟨b + 1 + 1, 2, none⟩ (.int .i64 tn)).setCell ⟨b + 1 + 1, 3, none⟩ (.slice a1 n1 c1)).setCell ⟨b + 1 + 1, 4, none⟩ (.slice a2 n2 c2) = wF from hwF.out]
    clear y0 y1 y2 y3 v0 v1 v2 v3 m0 m1 m2 m3 m4 o0 o1 o2 o3 o4
    have E1' := E1.out
    have E2' : wF.heap[b + 1 + 1]? = some (.cells #[.int .i64 tk, .string tt, .int .i64 tn, .slice a1 n1 c1, .slice a2 n2 c2] 30 (0, 0)) := E2.out
    obtain ⟨⟨t0, t1, t2, t3⟩, _⟩ := four_cells E1'
    obtain ⟨⟨s0, s1, s2, s3, s4⟩, _⟩ := five_cells E2'
    refine bodyPost_ret (v := .tuple #[stv x q, trv (tk) (tt) (tn) (.slice a1 n1 c1) (.slice a2 n2 c2)]) (by simp [results, Tryz.results51, go_sem, t0, t1, t2, t3, s0, s1, s2, s3, s4]) rfl ⟨tk, tt, tn, a1, n1, c1, a2, n2, c2, rfl, E3.out, Hi2.out, E4.out⟩
end Go.Proofs.YtggkjkkbkpnkiaaGreatDoor
