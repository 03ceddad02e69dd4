/-
  The reference's inner: case.
-/
import Derived.Test.YtggkjkkbkpnkiaaGreatDoorRL
import Derived.Test.YtggkjkkbkpnkiaaGreatDoorHH
set_option linter.unusedVariables false
set_option linter.unusedSimpArgs false
namespace Go.Proofs.YtggkjkkbkpnkiaaGreatDoor
open Go.RowKit Go.Maps
variable {x : Kx} {W W' : World} {p p' : Ps}
/-- A row of the call's own behind another. -/
theorem app_own (w : World) (ty : TypeId) (base base' : Nat) (v y : Value) (n m : Nat) (xs ys : List Value) (hown : w.ownsRow base 30 5 v n xs) (hy : w.ownsRow base' 30 5 y m ys) (h1 : ∀ u ∈ ys, u.oneCell' = true) (hb : n + m ≤ 300000) (hbase : base ≤ w.heap.size) :
    ∃ v' w', (Builtin.append_ #[28, 28] ty #[v, y]).run Tryz.prog w = .ok v' w' ∧ w'.ownsRow base 30 5 v' (n + m) (xs ++ ys) ∧ w.grownBy w' v.ownBlock ∧ (v'.ownBlock = v.ownBlock ∨ v'.ownBlock = some w.heap.size) := by
  obtain ⟨i0, hi0, hzz, hz1, hz2⟩ := info25'
  have hlen := hy.1
  rcases hy.2 with ⟨rfl, h0⟩ | ⟨g, cap, cur, rfl, hA, hg, hnc, hcm, hcs, htk⟩
  · subst h0
    have hys : ys = [] := List.eq_nil_of_length_eq_zero (by simpa using hlen)
    subst hys
    refine ⟨v, w, ?_, by simpa using hown, World.grownBy.refl _ _, .inl rfl⟩
    obtain ⟨va, vc, rfl⟩ := ownsRow_sv hown
    rcases hown.2 with ⟨h1, h2⟩ | ⟨g, cap, cur, h1, _, _, hnc, _⟩
    · cases h1
      simp [Builtin.append_, run_underlying Tryz.underlying28, sizeOf, typeInfo, hi0, Builtin.lenOf, Builtin.firstCells, loadCells, loadCellsFrom, hz1]
    · cases h1
      simp [Builtin.append_, run_underlying Tryz.underlying28, sizeOf, typeInfo, hi0, Builtin.lenOf, Builtin.firstCells, hnc, storeCells, loadCells, loadCellsFrom, hz1]
  · have hadd : ∀ j, (⟨g, 0, none⟩ : Addr).add j = ⟨g, j, none⟩ := fun j => by unfold Addr.add; split <;> simp_all
    obtain ⟨v', w', hr', hown', hgrow, _, hloc⟩ := run_append_own_at (P := Tryz.prog) w base 28 ty 30 i0 (trv 0 e0 0 nl nl) 5 80 Tryz.underlying28 hi0 hzz hz1 hz2 rfl (by decide) v n xs hown ⟨g, 0, none⟩ m cap ys hlen (fun j u hu => by
        rw [hadd]
        simp only [World.cell?, hg]
        have hj : j < m * 5 := by have := (List.getElem?_eq_some_iff.1 hu).1; rw [hlen] at this; exact this
        have : (cur.toList.take (m * 5))[j]? = some u := by rw [htk]; exact hu
        rw [List.getElem?_take_of_lt hj] at this
        simpa using this) h1 (by unfold maxLen; omega) (by omega) hbase
    exact ⟨v', w', hr', hown', hgrow, hloc⟩
section
variable {ops : Array Oper} {o : Oper} {a : Act} {w : World} {K : Act → World → Prop} {Q : Exit → Act → World → Prop} {E : Prop}
/-- Such an append as one step of a region that draws. -/
theorem step_own (hgd : o.guard = none) (t1 t2 : Operand) (ho : o.op = .call { callee := .builtin .append, args := #[t1, t2], argTypes := #[28, 28] }) (base base' : Nat) (v y : Value) (n m : Nat) (xs ys : List Value) (hx : a.eval t1 = v) (hy : a.eval t2 = y)
    (hv : w.ownsRow base 30 5 v n xs) (hr : w.ownsRow base' 30 5 y m ys) (h1 : ∀ u ∈ ys, u.oneCell' = true) (hl : n + m ≤ 300000) (hb : base ≤ w.heap.size)
    (h : ∀ v' w', w'.ownsRow base 30 5 v' (n + m) (xs ++ ys) → w.grownBy w' v.ownBlock → (v'.ownBlock = v.ownBlock ∨ v'.ownBlock = some w.heap.size) → K (a.put o.dst v') w') :
    if Region.wanted o (yielded ops a.tmps) = true then Oper.wp Tryz.prog o a w K Q else E := by
  have hw : Region.wanted o (yielded ops a.tmps) = true := by simp [Region.wanted, hgd]
  rw [if_pos hw]
  obtain ⟨v', w', hr', h2, h3, h4⟩ := app_own w o.type base base' v y n m xs ys hv hr h1 hl hb
  unfold Oper.wp execOp
  simp only [ho, resolve, invoke, builtin, Sem.run_bind, Sem.run_pure, Result.andThen_ok, List.map_toArray, List.map_cons, List.map_nil, hx, hy, hr']
  exact h v' w' h2 h3 h4
end
theorem sev_e0 {ts : List Tn} {g : Rule} {q : Ps} (hg : Stuck g) (h : (sevV ts sem g q).2.e = 0) : q.e = 0 := by
  by_cases e : q.e = 0
  · exact e
  · rw [sevV_err hg e] at h; exact h
/-- The tree of a case. -/
theorem cho_rep {wd w8 w9 : World} {b base nb m : Nat} {T : Tr} {rl : List Tr} {v v' : Value} {q2 : Ps} {K tk tn : Int} {tt : ByteArray} {u1 u2 : Value} {xs : List Value} (he : q2.e = 0) (L : LrE base (fun z => base ≤ z) wd rl v q2) (hbase : b + 3 ≤ base) (hT : Rep (fun z => b + 3 ≤ z) wd T (trv tk tt tn u1 u2))
    (g8 : Gr (fun _ => False) wd w8) (hnb : wd.heap.size ≤ nb) (hb : b + 3 ≤ w8.heap.size) (hxs : ∃ a c, v = .slice a m c ∧ wd.ownsRow base 30 5 v m xs) (hgr : w8.grownBy w9 (some nb)) (hloc : v'.ownBlock = some nb ∨ v'.ownBlock = some w8.heap.size)
    (hrow : w9.ownsRow (b + 3) 30 5 v' (1 + m) ([.int .i64 tk, .string tt, .int .i64 tn, u1, u2] ++ xs)) : Rep (fun z => b + 3 ≤ z) w9 (.mk K e0 0 [] ([T] ++ rl)) (trv K e0 0 nl v') := by
  obtain ⟨h0, m', xs', h1, h2, hp, h3⟩ := L
  obtain ⟨h4, vs, h5, h6⟩ := h3 he
  obtain ⟨a, c, hv, h7⟩ := hxs
  subst hv
  have hm : m = m' := by obtain ⟨_, _, e⟩ := ownsRow_sv h1; cases e; rfl
  subst hm
  have hxx : xs = xs' := by
    rcases h1.2 with ⟨e1, e2⟩ | ⟨g, cap, cur, e1, _, e3, _, _, _, e5⟩
    · subst e2
      have z1 : xs.length = 0 := by have := h7.1; omega
      have z2 : xs'.length = 0 := by have := h1.1; omega
      rw [List.eq_nil_of_length_eq_zero z1, List.eq_nil_of_length_eq_zero z2]
    · rcases h7.2 with ⟨e1', e2⟩ | ⟨g', cap', cur', e1', _, e3', _, _, _, e5'⟩
      · rw [e1] at e1'; cases e1'
      · rw [e1] at e1'
        cases e1'
        rw [e3] at e3'
        cases e3'
        rw [← e5, ← e5']
  subst hxx
  have hu : (Value.slice (some ⟨nb, 0, none⟩) 1 1).ownBlock = some nb := rfl
  have r1 : Reps (fun z => b + 3 ≤ z ∧ (Value.slice (some ⟨nb, 0, none⟩) 1 1).ownBlock ≠ some z) w8 [T] [trv tk tt tn u1 u2] := ⟨_, [], rfl, hT.turn (fun z hz hl => ⟨⟨hz, by rw [hu]; intro e; cases e; omega⟩, g8.block z hl (fun e => e)⟩), rfl⟩
  have r2 : Reps (fun z => b + 3 ≤ z ∧ (Value.slice (some ⟨nb, 0, none⟩) 1 1).ownBlock ≠ some z) w8 rl vs := h6.turn (fun z hz hl => ⟨⟨by have := hz.1; omega, by rw [hu]; intro e; cases e; omega⟩, g8.block z hl (fun e => e)⟩)
  have hrow' : w9.ownsRow (b + 3) 30 5 v' ([T].length + rl.length) ([trv tk tt tn u1 u2].flatMap cellsOf ++ vs.flatMap cellsOf) := by
    rw [← h5, ← h4]; exact hrow
  exact (Lr.grownL (u := .slice (some ⟨nb, 0, none⟩) 1 1) hb r1 r2 (by rw [hu]; exact hgr) (by rw [hu]; exact hloc) hrow').tree K e0
set_option maxRecDepth 100000 in
set_option maxHeartbeats 1200000 in
theorem rinner3 (d : Nat) (ex un : Rule) (hex : ROk x 39 d ex) (hun : ROk x 74 d un) (hse : Stuck ex) (hsu : Stuck un) (h : Rz x W p) (hd : p.d = d) : Calls Tryz.prog 92 #[stv x p, .int .i64 3] W fun e w' => EndX x W p e w' (choiceV x.ts ex un p) := by
  obtain ⟨g0, b0, b1, b2, hz0⟩ := open3 (x := x) W p
  obtain ⟨b, hb⟩ : ∃ b, W.heap.size = b := ⟨_, rfl⟩
  have Hd := Lib.hid hd
  have hbW := Lib.hid hb
  have hNb : Hid (x.N ≤ b) := by have := h.hN; show _ ≤ _; omega
  have R0 := Lib.hid (h.g0 g0)
  have hcall := Lib.hid (hex _ p (h.g0 g0) hd)
  obtain ⟨r, hr⟩ : ∃ r, r = choiceV x.ts ex un p := ⟨_, rfl⟩
  rw [← hr]
  have Hr : Hid (r = (.mk 12 e0 0 [] ([(ex p).1] ++ (sevV x.ts sem (clauseV x.ts ex un) (wantV x.ts wOf (ex p).2)).1), wantV x.ts wEnd (sevV x.ts sem (clauseV x.ts ex un) (wantV x.ts wOf (ex p).2)).2)) := hr
  have hRm := Lib.hid h.hm
  clear hd h hr
  go_enter Tryz.func92, Tryz.ntmps92
  go_wp2_with fail
  generalize ((W.alloc _).alloc _).alloc _ = W1 at g0 b0 b1 b2 hz0 hcall R0 ⊢
  rw [hb] at b0 b1 b2 hz0
  refine hcall.out.mono ?_
  rintro e w2 ⟨tk, tt, tn, a1, n1, c1, a2, n2, c2, rfl, rep2, hi2, g2⟩
  generalize (ex p).2 = q at Hr rep2 hi2 ⊢
  generalize (ex p).1 = T at Hr rep2 ⊢
  have C1 := Lib.hid (g2.keep b1 (fun e => e))
  have C2 := Lib.hid (g2.keep b2 (fun e => e))
  have R2 := Lib.hid (R0.out.g0 g2)
  have G2' := Lib.hid (g0.trans g2)
  have Hrep2 := Lib.hid rep2
  have Hi2 := Lib.hid hi2
  have hs2 : Hid (b + 3 ≤ w2.heap.size) := by have := g2.size; show _ ≤ _; omega
  obtain ⟨gX, XY, XT, hsX⟩ := two_new (x := x) (w2 := w2) (q := q) (tk := tk) (tt := tt) (tn := tn) (u1 := .slice a1 n1 c1) (u2 := .slice a2 n2 c2) rfl
  have RX := (R2.out.g0 gX).to (p' := q) Hi2.out.2.2 (by have := Hi2.out.1; have := R2.out.hd; omega)
  have hw1 := rwant_c RX wOf
  have hwi1 := Lib.hid (wantV_i x.ts wOf q Hi2.out.2.2)
  generalize wantV x.ts wOf q = q1 at Hr hw1 hwi1 ⊢
  have hbs2 := hs2.out
  clear b0 b1 b2 R0 g0 rep2 hi2 hcall g2
  go_wp2_with fail
  generalize (w2.alloc (stb x q)).alloc _ = X at gX XY XT hsX RX hw1 ⊢
  obtain ⟨yb, hyb⟩ : ∃ yb, w2.heap.size = yb := ⟨_, rfl⟩
  have hyb3 : Hid (b + 3 ≤ yb) := by have := hs2.out; show _ ≤ _; omega
  rw [hyb] at XY XT hsX ⊢
  refine hw1.mono ?_
  rintro e w3 ⟨rfl, g3⟩
  have D1 := Lib.hid (g3.keep (gX.keep C1.out (fun e => e)) (fun e => e))
  have D2 := Lib.hid (g3.keep (gX.keep C2.out (fun e => e)) (fun e => e))
  have DY := Lib.hid (g3.keep XY (fun e => e))
  have DT := Lib.hid (g3.keep XT (fun e => e))
  have G3 := Lib.hid ((G2'.out.trans gX).trans g3)
  have R3 := Lib.hid ((RX.g0 g3).to (p' := q1) hwi1.out.2.2.1 (by have := hwi1.out.1; have := RX.hd; omega))
  have BT3 : Hid (q.e = 0 → Rep (fun z => b + 3 ≤ z ∧ z < yb) w3 T (trv tk tt tn (.slice a1 n1 c1) (.slice a2 n2 c2))) := fun he => (Hrep2.out he).turn (fun z hz hl => ⟨⟨by have h9 : W1.heap.size ≤ z := hz; omega, by omega⟩, (g3.block z (Nat.lt_of_lt_of_le hl gX.size) (fun e => e)).trans (gX.block z hl (fun e => e))⟩)
  obtain ⟨⟨z0, z1, z2, z3⟩, w0', w1', w2', w3'⟩ := four_cells DY.out
  have hly : yb < w3.heap.size := (Array.getElem?_eq_some_iff.1 DY.out).1
  have gs1 : Gr (fun k => k = yb) w3 ((((w3.setCell ⟨yb, 0, none⟩ (.slice x.a x.ts.length x.c)).setCell ⟨yb, 1, none⟩ (.int .i64 (q1.i : Int))).setCell ⟨yb, 2, none⟩ (.int .i64 (q1.d : Int))).setCell ⟨yb, 3, none⟩ (.int .i64 q1.e)) := set4_gr w3 yb (.slice x.a x.ts.length x.c) (.int .i64 (q1.i : Int)) (.int .i64 (q1.d : Int)) (.int .i64 q1.e)
  have hy9 := hyb3.out
  have S1 := Lib.hid (gs1.keep D1.out (by omega))
  have S2 := Lib.hid (gs1.keep D2.out (by omega))
  have SY : Hid (((((w3.setCell ⟨yb, 0, none⟩ (.slice x.a x.ts.length x.c)).setCell ⟨yb, 1, none⟩ (.int .i64 (q1.i : Int))).setCell ⟨yb, 2, none⟩ (.int .i64 (q1.d : Int))).setCell ⟨yb, 3, none⟩ (.int .i64 q1.e)).heap[yb]? = some (stb x q1)) := set4_heap DY.out (.slice x.a x.ts.length x.c) (.int .i64 (q1.i : Int)) (.int .i64 (q1.d : Int)) (.int .i64 q1.e)
  have ST := Lib.hid (gs1.keep DT.out (by omega))
  have GS := Lib.hid (G3.out.trans' gs1 (fun k hk e => by have := hbW.out; omega))
  have RS := Lib.hid (R3.out.gr gs1 (fun k hk e => by have := hNb.out; omega))
  have BT4 : Hid (q.e = 0 → Rep (fun z => b + 3 ≤ z ∧ z < yb) ((((w3.setCell ⟨yb, 0, none⟩ (.slice x.a x.ts.length x.c)).setCell ⟨yb, 1, none⟩ (.int .i64 (q1.i : Int))).setCell ⟨yb, 2, none⟩ (.int .i64 (q1.d : Int))).setCell ⟨yb, 3, none⟩ (.int .i64 q1.e)) T (trv tk tt tn (.slice a1 n1 c1) (.slice a2 n2 c2))) := fun he => (BT3.out he).turn (fun z hz hl => ⟨hz, gs1.block z hl (by omega)⟩)
  have hcall4 := Lib.hid (rclauses_c d ex un hex hun hse hsu RS.out (by have := hwi1.out; have := Hi2.out; have := Hd.out; omega))
  have hsz4 := Lib.hid gs1.size
  clear D1 D2 DY DT G3 R3 BT3 gs1 gX XY XT RX hw1 g3 C1 C2 R2 G2' Hrep2 hy9
  go_wp2_with fail
  generalize (((w3.setCell ⟨yb, 0, none⟩ (.slice x.a x.ts.length x.c)).setCell ⟨yb, 1, none⟩ (.int .i64 (q1.i : Int))).setCell ⟨yb, 2, none⟩ (.int .i64 (q1.d : Int))).setCell ⟨yb, 3, none⟩ (.int .i64 q1.e) = w4 at S1 S2 SY ST GS RS BT4 hcall4 hsz4 ⊢
  refine hcall4.out.mono ?_
  rintro e w5 ⟨v, rfl, L5, hi5, g5⟩
  have hse0' := fun he => sev_e0 (ts := x.ts) (q := q1) (clause_stuck (ts := x.ts) hse hsu) he
  generalize (sevV x.ts sem (clauseV x.ts ex un) q1).2 = q2 at Hr L5 hi5 hse0' ⊢
  generalize (sevV x.ts sem (clauseV x.ts ex un) q1).1 = rl at Hr L5 ⊢
  obtain ⟨va, vn, vc, rfl⟩ := L5.sv
  obtain ⟨base, hbase⟩ : ∃ base, w4.heap.size = base := ⟨_, rfl⟩
  rw [hbase] at L5 g5
  have hyT : Hid (yb + 2 ≤ base) := by have := hsz4.out; have := (Array.getElem?_eq_some_iff.1 ST.out).1; show _ ≤ _; omega
  have E1 := g5.keep S1.out (by have := hyb3.out; have := hyT.out; omega)
  have E2 := g5.keep S2.out (by have := hyb3.out; have := hyT.out; omega)
  have EY := g5.keep SY.out (by have := hyT.out; omega)
  have ET := g5.keep ST.out (by have := hyT.out; omega)
  have G5 : Gr (fun _ => False) W w5 := GS.out.trans' g5 (fun k hk e => by have := hbW.out; have := hyb3.out; have := hyT.out; omega)
  have R5 := (RS.out.gr g5 (fun k hk e => by have := hNb.out; have := hyb3.out; have := hyT.out; omega)).to (p' := q2) hi5.2.2 (by have := hi5.1; have := RS.out.hd; omega)
  have BT5 : q.e = 0 → Rep (fun z => b + 3 ≤ z ∧ z < yb) w5 T (trv tk tt tn (.slice a1 n1 c1) (.slice a2 n2 c2)) := fun he => (BT4.out he).turn (fun z hz hl => ⟨hz, g5.block z hl (by have := hyT.out; omega)⟩)
  have gs2 : Gr (fun k => k = yb) w5 ((((w5.setCell ⟨yb, 0, none⟩ (.slice x.a x.ts.length x.c)).setCell ⟨yb, 1, none⟩ (.int .i64 (q2.i : Int))).setCell ⟨yb, 2, none⟩ (.int .i64 (q2.d : Int))).setCell ⟨yb, 3, none⟩ (.int .i64 q2.e)) := set4_gr w5 yb (.slice x.a x.ts.length x.c) (.int .i64 (q2.i : Int)) (.int .i64 (q2.d : Int)) (.int .i64 q2.e)
  have hy9 := hyb3.out
  have hy8 := hyT.out
  have F1 := gs2.keep E1 (by omega)
  have F2 := gs2.keep E2 (by omega)
  have FY : ((((w5.setCell ⟨yb, 0, none⟩ (.slice x.a x.ts.length x.c)).setCell ⟨yb, 1, none⟩ (.int .i64 (q2.i : Int))).setCell ⟨yb, 2, none⟩ (.int .i64 (q2.d : Int))).setCell ⟨yb, 3, none⟩ (.int .i64 q2.e)).heap[yb]? = some (stb x q2) := set4_heap EY (.slice x.a x.ts.length x.c) (.int .i64 (q2.i : Int)) (.int .i64 (q2.d : Int)) (.int .i64 q2.e)
  have FT := gs2.keep ET (by omega)
  have GF := G5.trans' gs2 (fun k hk e => by have := hbW.out; omega)
  have RF := R5.gr gs2 (fun k hk e => by have := hNb.out; omega)
  have LF := L5.gr gs2 (fun k hk e => by have h8 : base ≤ k := hk; omega)
  have BTF : q.e = 0 → Rep (fun z => b + 3 ≤ z) ((((w5.setCell ⟨yb, 0, none⟩ (.slice x.a x.ts.length x.c)).setCell ⟨yb, 1, none⟩ (.int .i64 (q2.i : Int))).setCell ⟨yb, 2, none⟩ (.int .i64 (q2.d : Int))).setCell ⟨yb, 3, none⟩ (.int .i64 q2.e)) T (trv tk tt tn (.slice a1 n1 c1) (.slice a2 n2 c2)) := fun he => (BT5 he).turn (fun z hz hl => ⟨hz.1, gs2.block z hl (by omega)⟩)
  obtain ⟨wX, hwX⟩ : ∃ wX, (((w5.setCell ⟨yb, 0, none⟩ (.slice x.a x.ts.length x.c)).setCell ⟨yb, 1, none⟩ (.int .i64 (q2.i : Int))).setCell ⟨yb, 2, none⟩ (.int .i64 (q2.d : Int))).setCell ⟨yb, 3, none⟩ (.int .i64 q2.e) = wX := ⟨_, rfl⟩
  rw [hwX] at F1 F2 FY FT GF RF LF BTF
  have Hi5 := Lib.hid hi5
  have hse0 : Hid (q2.e = 0 → q.e = 0) := fun he => hwi1.out.2.2.2 (hse0' he)
  obtain ⟨⟨x0, x1, x2, x3⟩, v0, v1, v2, v3⟩ := four_cells EY
  have hly5 : yb < w5.heap.size := (Array.getElem?_eq_some_iff.1 EY).1
  replace F1 := Lib.hid F1
  replace F2 := Lib.hid F2
  replace FY := Lib.hid FY
  replace FT := Lib.hid FT
  replace GF := Lib.hid GF
  replace RF := Lib.hid RF
  replace LF := Lib.hid LF
  replace BTF := Lib.hid BTF
  replace hwX := Lib.hid hwX
  clear S1 S2 SY ST GS RS BT4 hcall4 hsz4 E1 E2 EY ET G5 R5 BT5 gs2 L5 hi5 g5 hy9 hy8 z0 z1 z2 z3 w0' w1' w2' w3' hly hse0'
  go_wp2_with fail
  rw [show (((w5.setCell ⟨yb, 0, none⟩ (.slice x.a x.ts.length x.c)).setCell ⟨yb, 1, none⟩ (.int .i64 (q2.i : Int))).setCell ⟨yb, 2, none⟩ (.int .i64 (q2.d : Int))).setCell ⟨yb, 3, none⟩ (.int .i64 q2.e) = wX from hwX.out]
  clear x0 x1 x2 x3 v0 v1 v2 v3 hly5
  have D1 : wX.drew.heap[b + 1]? = some zs := F1.out
  have D2 : wX.drew.heap[b + 2]? = some zt := F2.out
  have DY : wX.drew.heap[yb]? = some (stb x q2) := FY.out
  have DT : wX.drew.heap[yb + 1]? = some (.cells #[.int .i64 tk, .string tt, .int .i64 tn, .slice a1 n1 c1, .slice a2 n2 c2] 30 (0, 0)) := FT.out
  have Gd : Hid (Gr (fun _ => False) W wX.drew) := GF.out.trans (Gr.drew wX _)
  have Rd := Lib.hid (RF.out.g0 (Gr.drew wX _))
  have Ld := Lib.hid (LF.out.gr (Gr.drew wX (fun _ => False)) (fun _ _ e => e))
  have BT : Hid (q.e = 0 → Rep (fun z => b + 3 ≤ z) wX.drew T (trv tk tt tn (.slice a1 n1 c1) (.slice a2 n2 c2))) := fun he => (BTF.out he).turn (fun z hz hl => ⟨hz, rfl⟩)
  have hw := rwant_c Rd.out wEnd
  have hwi := Lib.hid (wantV_i x.ts wEnd q2 Rd.out.hi)
  obtain ⟨q3, hq3⟩ : ∃ q3, q3 = wantV x.ts wEnd q2 := ⟨_, rfl⟩
  rw [← hq3] at Hr hw hwi
  replace hq3 := Lib.hid hq3
  have hqF : Hid (q3.d = p.d ∧ p.i ≤ q3.i ∧ q3.i ≤ x.ts.length) := by
    have h1 := hwi.out
    have h2 := Hi5.out
    have h3 := hwi1.out
    have h4 := Hi2.out
    exact ⟨by omega, by omega, h1.2.2.1⟩
  have TS : Gr (fun k => k = b + 1 ∨ k = b + 2) wX.drew wX.drew := Gr.refl _ _
  refine wp_region_L (L := 100) (T := fun w => Gr (fun k => k = b + 1 ∨ k = b + 2) wX.drew w) (by kernel_rfl) ?_
  generalize wX.drew = wd at TS D1 D2 DY DT Gd Rd Ld BT hw ⊢
  have hyb9 := hyb3.out
  have hbas : Hid (b + 3 ≤ base) := by have := hyT.out; show _ ≤ _; omega
  have hWd : Hid (W.heap.size ≤ wd.heap.size) := Gd.out.size
  have hdy : yb < wd.heap.size := (Array.getElem?_eq_some_iff.1 DY).1
  obtain ⟨xs, hrowd, hone, hvn⟩ : ∃ xs, wd.ownsRow base 30 5 (.slice va vn vc) vn xs ∧ Hid (∀ u ∈ xs, u.oneCell' = true) ∧ Hid (vn ≤ 100001) := by
    obtain ⟨_, m, xs, h1, h2, _⟩ := Ld.out
    obtain ⟨_, _, e⟩ := ownsRow_sv h1
    cases e
    exact ⟨xs, h1, h2.2, by have := h2.1; have := Rd.out.hi; have := hRm.out; show _ ≤ _; omega⟩
  obtain ⟨⟨d0, d1, d2, d3⟩, _⟩ := four_cells DY
  obtain ⟨⟨k0, k1, k2, k3, k4⟩, _⟩ := five_cells DT
  refine wpAnyN_at (i := 0) (v := (.agg #[.slice x.a x.ts.length x.c, .int .i64 (q2.i : Int), .int .i64 (q2.d : Int), .int .i64 q2.e])) (some 64) rfl rfl (by kernel_rfl) (by kernel_rfl) (by kernel_rfl) (by kernel_rfl) (fun _ _ _ h => h) (Or.inl ⟨by rfl, ?_⟩) TS ?_
  · intro w hSw
    have qq0 := cell_gr d0 hSw (by show ¬ (_ ∨ _); omega)
    have qq1 := cell_gr d1 hSw (by show ¬ (_ ∨ _); omega)
    have qq2 := cell_gr d2 hSw (by show ¬ (_ ∨ _); omega)
    have qq3 := cell_gr d3 hSw (by show ¬ (_ ∨ _); omega)
    have qz := World.block_lt_of_cell? _ _ qq0
    go_simp
    try (intro h; exfalso; omega)
  try simp only [Act.put, List.setIfInBounds_toArray, List.set_cons_zero, List.set_cons_succ]
  refine wpAnyN_at (i := 2) (v := (.agg #[.int .i64 tk, .string tt, .int .i64 tn, .slice a1 n1 c1, .slice a2 n2 c2])) (some 66) rfl rfl (by kernel_rfl) (by kernel_rfl) (by kernel_rfl) (by kernel_rfl) (fun _ _ _ h => h) (Or.inl ⟨by rfl, ?_⟩) TS ?_
  · intro w hSw
    have qq0 := cell_gr k0 hSw (by show ¬ (_ ∨ _); omega)
    have qq1 := cell_gr k1 hSw (by show ¬ (_ ∨ _); omega)
    have qq2 := cell_gr k2 hSw (by show ¬ (_ ∨ _); omega)
    have qq3 := cell_gr k3 hSw (by show ¬ (_ ∨ _); omega)
    have qq4 := cell_gr k4 hSw (by show ¬ (_ ∨ _); omega)
    have qz := World.block_lt_of_cell? _ _ qq0
    go_simp
    try (intro h; exfalso; omega)
  try simp only [Act.put, List.setIfInBounds_toArray, List.set_cons_zero, List.set_cons_succ]
  refine wpAnyN_at (i := 4) (v := (.slice va vn vc)) (some 68) rfl rfl (by kernel_rfl) (by kernel_rfl) (by kernel_rfl) (by kernel_rfl) (fun _ _ _ h => h) (Or.inl ⟨by rfl, ?_⟩) TS ?_
  · intro w hSw
    go_simp
    try (intro h; exfalso; omega)
  try simp only [Act.put, List.setIfInBounds_toArray, List.set_cons_zero, List.set_cons_succ]
  refine wpAnyL_two (i := 1) (j := 3) (by kernel_rfl) rfl rfl (fun K hK => ?_) (fun K hK => ?_)
  · go_simp
    refine hw.mono ?_
    rintro e w7 ⟨rfl, g7⟩
    refine hK.out _ _ (fun _ => g7.any _) ?_
    clear hK K
    try simp only [Act.put, List.setIfInBounds_toArray, List.set_cons_zero, List.set_cons_succ]
    have TS8 : Gr (fun k => k = b + 1 ∨ k = b + 2) wd (w7.alloc (.cells #[.int .i64 tk, .string tt, .int .i64 tn, .slice a1 n1 c1, .slice a2 n2 c2] 30)) := (g7.any _).trans (Gr.alloc _ _ _)
    refine wpAnyL_one (i := 3) (by kernel_rfl) rfl (fun K hK => ?_)
    go_simp
    refine hK.out _ _ (fun _ => TS8) ?_
    clear hK K
    try simp only [Act.put, List.setIfInBounds_toArray, List.set_cons_zero, List.set_cons_succ]
    have hrow8 := World.ownsRow_lit (base := b + 3) (e := 30) (size := 5) w7 #[.int .i64 tk, .string tt, .int .i64 tn, .slice a1 n1 c1, .slice a2 n2 c2] 1 (by have := g7.size; omega) (by unfold maxLen; omega) rfl
    have g8 : Gr (fun _ => False) wd (w7.alloc (.cells #[.int .i64 tk, .string tt, .int .i64 tn, .slice a1 n1 c1, .slice a2 n2 c2] 30)) := g7.trans (Gr.alloc _ _ _)
    generalize w7.alloc (.cells #[.int .i64 tk, .string tt, .int .i64 tn, .slice a1 n1 c1, .slice a2 n2 c2] 30) = w8 at hrow8 g8 TS8 ⊢
    obtain ⟨nb, hnb7⟩ : ∃ nb, w7.heap.size = nb := ⟨_, rfl⟩
    have hnb : wd.heap.size ≤ nb := by have := g7.size; omega
    rw [hnb7] at hrow8 ⊢
    refine wpAnyL_one (i := 5) (by kernel_rfl) rfl (fun K hK => ?_)
    refine step_own rfl _ _ rfl (b + 3) base (.slice (some ⟨nb, 0, none⟩) 1 1) (.slice va vn vc) 1 vn [.int .i64 tk, .string tt, .int .i64 tn, .slice a1 n1 c1, .slice a2 n2 c2] xs rfl rfl hrow8 (ownsRow_of_block hrowd (fun k h1 h2 => g8.block k (ownsRow_lt hrowd k h2).2 (fun e => e))) hone.out (by have := hvn.out; omega) (by have := g8.size; omega) ?_
    intro v9 w9 hrow9 hgr9 hloc9
    obtain ⟨v9a, v9c, rfl⟩ := ownsRow_sv hrow9
    have Gw9 : Gr (fun k => k = nb) w8 w9 := Gr.of_grown hgr9 (fun z e => by cases e; rfl)
    have TS9 : Gr (fun k => k = b + 1 ∨ k = b + 2) wd w9 := (g8.any _).trans' Gw9 (fun k hk e => by omega)
    refine hK.out _ _ (fun _ => TS9) ?_
    clear hK K
    try simp only [Act.put, List.setIfInBounds_toArray, List.set_cons_zero, List.set_cons_succ]
    have F1 := Gw9.keep (g8.keep D1 (fun e => e)) (by omega)
    have F2 := Gw9.keep (g8.keep D2 (fun e => e)) (by omega)
    have hR9 : q3.e = 0 → Rep (fun z => b + 3 ≤ z) w9 (.mk 12 e0 0 [] ([T] ++ rl)) (trv 12 e0 0 nl (.slice v9a (1 + vn) v9c)) := fun he => cho_rep (hwi.out.2.2.2 he) Ld.out hbas.out (BT.out (hse0.out (hwi.out.2.2.2 he))) g8 hnb (by have := g8.size; omega) ⟨_, _, rfl, hrowd⟩ hgr9 hloc9 hrow9
    refine wpAnyN_at (i := 6) (v := (.agg #[.int .i64 12, .string e0, .int .i64 0, nl, .slice v9a (1 + vn) v9c])) (some 70) rfl rfl (by kernel_rfl) (by kernel_rfl) (by kernel_rfl) (by kernel_rfl) (fun _ _ _ h => h) (Or.inl ⟨by rfl, ?_⟩) TS9 ?_
    · intro w hSw
      go_simp
      try (intro h; exfalso; omega)
    try simp only [Act.put, List.setIfInBounds_toArray, List.set_cons_zero, List.set_cons_succ]
    obtain ⟨E1, E2, E3, E4⟩ := end3 (x := x) (q := q3) (T := (.mk 12 e0 0 [] ([T] ++ rl))) (k := 12) (s := e0) (n := 0) (bv := nl) (lv := .slice v9a (1 + vn) v9c) ((Gd.out.trans g8).trans' Gw9 (fun k hk e => by have := hbW.out; have := hWd.out; omega)) hbW.out F1 F2 (hR9)
    obtain ⟨wF, hwF⟩ : ∃ wF, set5 (set4 w9 (b + 1) (.slice x.a x.ts.length x.c) (.int .i64 (q3.i : Int)) (.int .i64 (q3.d : Int)) (.int .i64 q3.e)) (b + 2) (.int .i64 12) (.string e0) (.int .i64 0) (nl) (.slice v9a (1 + vn) v9c) = wF := ⟨_, rfl⟩
    rw [hwF] at E1 E2 E3 E4
    replace E1 := Lib.hid E1
    replace E2 := Lib.hid E2
    replace E3 := Lib.hid E3
    replace E4 := Lib.hid E4
    replace hwF := Lib.hid hwF
    obtain ⟨⟨y0, y1, y2, y3⟩, v0, v1, v2, v3⟩ := four_cells F1
    obtain ⟨⟨m0, m1, m2, m3, m4⟩, o0, o1, o2, o3, o4⟩ := five_cells F2
    have hlz : b + 2 < w9.heap.size := (Array.getElem?_eq_some_iff.1 F2).1
    have hlz' : b + 1 < w9.heap.size := by omega
    have TA : Gr (fun k => k = b + 1 ∨ k = b + 2) wd (set4 w9 (b + 1) (.slice x.a x.ts.length x.c) (.int .i64 (q3.i : Int)) (.int .i64 (q3.d : Int)) (.int .i64 q3.e)) := (TS9).trans' (set4_gr w9 (b + 1) _ _ _ _) (fun _ _ e => .inl e)
    have TB : Gr (fun k => k = b + 1 ∨ k = b + 2) wd (set5 (set4 w9 (b + 1) (.slice x.a x.ts.length x.c) (.int .i64 (q3.i : Int)) (.int .i64 (q3.d : Int)) (.int .i64 q3.e)) (b + 2) (.int .i64 12) (.string e0) (.int .i64 0) (nl) (.slice v9a (1 + vn) v9c)) := TA.trans' (set5_gr _ (b + 2) _ _ _ _ _) (fun _ _ e => .inr e)
    refine wpAnyL_one (i := 7) (by kernel_rfl) rfl (fun K hK => ?_)
    go_simp
    refine hK.out _ _ (fun _ => TA) ?_
    clear hK K
    try simp only [Act.put, List.setIfInBounds_toArray, List.set_cons_zero, List.set_cons_succ]
    refine wpAnyL_one (i := 8) (by kernel_rfl) rfl (fun K hK => ?_)
    go_simp
    refine hK.out _ _ (fun _ => TB) ?_
    clear hK K
    try simp only [Act.put, List.setIfInBounds_toArray, List.set_cons_zero, List.set_cons_succ]
    refine wpAnyL_done (by kernel_rfl) ?_ _
    refine NoPanic.normal ?_
    clear TS TA TB TS9
    go_wp2_with fail
    rw [Hr.out]
    rw [show ((((((((w9.setCell ⟨b + 1, 0, none⟩ (.slice x.a x.ts.length x.c)).setCell ⟨b + 1, 1, none⟩ (.int .i64 (q3.i : Int))).setCell ⟨b + 1, 2, none⟩ (.int .i64 (q3.d : Int))).setCell ⟨b + 1, 3, none⟩ (.int .i64 q3.e)).setCell ⟨b + 1 + 1, 0, none⟩ (.int .i64 12)).setCell ⟨b + 1 + 1, 1, none⟩ (.string e0)).setCell ⟨b + 1 + 1, 2, none⟩ (.int .i64 0)).setCell ⟨b + 1 + 1, 3, none⟩ (nl)).setCell ⟨b + 1 + 1, 4, none⟩ (.slice v9a (1 + vn) v9c) = wF from hwF.out]
    clear y0 y1 y2 y3 v0 v1 v2 v3 m0 m1 m2 m3 m4 o0 o1 o2 o3 o4
    have E1' := E1.out
    have E2' : wF.heap[b + 1 + 1]? = some (.cells #[.int .i64 12, .string e0, .int .i64 0, nl, .slice v9a (1 + vn) v9c] 30 (0, 0)) := E2.out
    obtain ⟨⟨t0, t1, t2, t3⟩, _⟩ := four_cells E1'
    obtain ⟨⟨s0, s1, s2, s3, s4⟩, _⟩ := five_cells E2'
    refine bodyPost_ret (v := .tuple #[stv x q3, trv (12) (e0) (0) (nl) (.slice v9a (1 + vn) v9c)]) (by simp [results, Tryz.results92, go_sem, t0, t1, t2, t3, s0, s1, s2, s3, s4]) rfl ⟨12, e0, 0, none, 0, 0, v9a, 1 + vn, v9c, rfl, E3.out, hqF.out, E4.out⟩
  · have TS8 : Gr (fun k => k = b + 1 ∨ k = b + 2) wd (wd.alloc (.cells #[.int .i64 tk, .string tt, .int .i64 tn, .slice a1 n1 c1, .slice a2 n2 c2] 30)) := Gr.alloc _ _ _
    go_simp
    refine hK.out _ _ (fun _ => TS8) ?_
    clear hK K
    try simp only [Act.put, List.setIfInBounds_toArray, List.set_cons_zero, List.set_cons_succ]
    have hrow7 := World.ownsRow_lit (base := b + 3) (e := 30) (size := 5) wd #[.int .i64 tk, .string tt, .int .i64 tn, .slice a1 n1 c1, .slice a2 n2 c2] 1 (by omega) (by unfold maxLen; omega) rfl
    have g7 : Gr (fun _ => False) wd (wd.alloc (.cells #[.int .i64 tk, .string tt, .int .i64 tn, .slice a1 n1 c1, .slice a2 n2 c2] 30)) := Gr.alloc _ _ _
    have hw := rwant_c (Rd.out.g0 g7) wEnd
    rw [← hq3.out] at hw
    generalize wd.alloc (.cells #[.int .i64 tk, .string tt, .int .i64 tn, .slice a1 n1 c1, .slice a2 n2 c2] 30) = w7 at hrow7 g7 hw TS8 ⊢
    obtain ⟨nb, hnb7⟩ : ∃ nb, wd.heap.size = nb := ⟨_, rfl⟩
    have hnb : wd.heap.size ≤ nb := by omega
    rw [hnb7] at hrow7 ⊢
    refine wpAnyL_one (i := 1) (by kernel_rfl) rfl (fun K hK => ?_)
    go_simp
    refine (hw).mono ?_
    rintro e w8 ⟨rfl, g8a⟩
    refine hK.out _ _ (fun _ => TS8.trans (g8a.any _)) ?_
    clear hK K
    try simp only [Act.put, List.setIfInBounds_toArray, List.set_cons_zero, List.set_cons_succ]
    have g8 := g7.trans g8a
    have hrow8 := ownsRow_of_block hrow7 (fun k h1 h2 => g8a.block k (ownsRow_lt hrow7 k h2).2 (fun e => e))
    refine wpAnyL_one (i := 5) (by kernel_rfl) rfl (fun K hK => ?_)
    refine step_own rfl _ _ rfl (b + 3) base (.slice (some ⟨nb, 0, none⟩) 1 1) (.slice va vn vc) 1 vn [.int .i64 tk, .string tt, .int .i64 tn, .slice a1 n1 c1, .slice a2 n2 c2] xs rfl rfl hrow8 (ownsRow_of_block hrowd (fun k h1 h2 => g8.block k (ownsRow_lt hrowd k h2).2 (fun e => e))) hone.out (by have := hvn.out; omega) (by have := g8.size; omega) ?_
    intro v9 w9 hrow9 hgr9 hloc9
    obtain ⟨v9a, v9c, rfl⟩ := ownsRow_sv hrow9
    have Gw9 : Gr (fun k => k = nb) w8 w9 := Gr.of_grown hgr9 (fun z e => by cases e; rfl)
    have TS9 : Gr (fun k => k = b + 1 ∨ k = b + 2) wd w9 := (g8.any _).trans' Gw9 (fun k hk e => by omega)
    refine hK.out _ _ (fun _ => TS9) ?_
    clear hK K
    try simp only [Act.put, List.setIfInBounds_toArray, List.set_cons_zero, List.set_cons_succ]
    have F1 := Gw9.keep (g8.keep D1 (fun e => e)) (by omega)
    have F2 := Gw9.keep (g8.keep D2 (fun e => e)) (by omega)
    have hR9 : q3.e = 0 → Rep (fun z => b + 3 ≤ z) w9 (.mk 12 e0 0 [] ([T] ++ rl)) (trv 12 e0 0 nl (.slice v9a (1 + vn) v9c)) := fun he => cho_rep (hwi.out.2.2.2 he) Ld.out hbas.out (BT.out (hse0.out (hwi.out.2.2.2 he))) g8 hnb (by have := g8.size; omega) ⟨_, _, rfl, hrowd⟩ hgr9 hloc9 hrow9
    refine wpAnyN_at (i := 6) (v := (.agg #[.int .i64 12, .string e0, .int .i64 0, nl, .slice v9a (1 + vn) v9c])) (some 70) rfl rfl (by kernel_rfl) (by kernel_rfl) (by kernel_rfl) (by kernel_rfl) (fun _ _ _ h => h) (Or.inl ⟨by rfl, ?_⟩) TS9 ?_
    · intro w hSw
      go_simp
      try (intro h; exfalso; omega)
    try simp only [Act.put, List.setIfInBounds_toArray, List.set_cons_zero, List.set_cons_succ]
    obtain ⟨E1, E2, E3, E4⟩ := end3 (x := x) (q := q3) (T := (.mk 12 e0 0 [] ([T] ++ rl))) (k := 12) (s := e0) (n := 0) (bv := nl) (lv := .slice v9a (1 + vn) v9c) ((Gd.out.trans g8).trans' Gw9 (fun k hk e => by have := hbW.out; have := hWd.out; omega)) hbW.out F1 F2 (hR9)
    obtain ⟨wF, hwF⟩ : ∃ wF, set5 (set4 w9 (b + 1) (.slice x.a x.ts.length x.c) (.int .i64 (q3.i : Int)) (.int .i64 (q3.d : Int)) (.int .i64 q3.e)) (b + 2) (.int .i64 12) (.string e0) (.int .i64 0) (nl) (.slice v9a (1 + vn) v9c) = wF := ⟨_, rfl⟩
    rw [hwF] at E1 E2 E3 E4
    replace E1 := Lib.hid E1
    replace E2 := Lib.hid E2
    replace E3 := Lib.hid E3
    replace E4 := Lib.hid E4
    replace hwF := Lib.hid hwF
    obtain ⟨⟨y0, y1, y2, y3⟩, v0, v1, v2, v3⟩ := four_cells F1
    obtain ⟨⟨m0, m1, m2, m3, m4⟩, o0, o1, o2, o3, o4⟩ := five_cells F2
    have hlz : b + 2 < w9.heap.size := (Array.getElem?_eq_some_iff.1 F2).1
    have hlz' : b + 1 < w9.heap.size := by omega
    have TA : Gr (fun k => k = b + 1 ∨ k = b + 2) wd (set4 w9 (b + 1) (.slice x.a x.ts.length x.c) (.int .i64 (q3.i : Int)) (.int .i64 (q3.d : Int)) (.int .i64 q3.e)) := (TS9).trans' (set4_gr w9 (b + 1) _ _ _ _) (fun _ _ e => .inl e)
    have TB : Gr (fun k => k = b + 1 ∨ k = b + 2) wd (set5 (set4 w9 (b + 1) (.slice x.a x.ts.length x.c) (.int .i64 (q3.i : Int)) (.int .i64 (q3.d : Int)) (.int .i64 q3.e)) (b + 2) (.int .i64 12) (.string e0) (.int .i64 0) (nl) (.slice v9a (1 + vn) v9c)) := TA.trans' (set5_gr _ (b + 2) _ _ _ _ _) (fun _ _ e => .inr e)
    refine wpAnyL_one (i := 7) (by kernel_rfl) rfl (fun K hK => ?_)
    go_simp
    refine hK.out _ _ (fun _ => TA) ?_
    clear hK K
    try simp only [Act.put, List.setIfInBounds_toArray, List.set_cons_zero, List.set_cons_succ]
    refine wpAnyL_one (i := 8) (by kernel_rfl) rfl (fun K hK => ?_)
    go_simp
    refine hK.out _ _ (fun _ => TB) ?_
    clear hK K
    try simp only [Act.put, List.setIfInBounds_toArray, List.set_cons_zero, List.set_cons_succ]
    refine wpAnyL_done (by kernel_rfl) ?_ _
    refine NoPanic.normal ?_
    clear TS TA TB TS9
    go_wp2_with fail
    rw [Hr.out]
    rw [show ((((((((w9.setCell ⟨b + 1, 0, none⟩ (.slice x.a x.ts.length x.c)).setCell ⟨b + 1, 1, none⟩ (.int .i64 (q3.i : Int))).setCell ⟨b + 1, 2, none⟩ (.int .i64 (q3.d : Int))).setCell ⟨b + 1, 3, none⟩ (.int .i64 q3.e)).setCell ⟨b + 1 + 1, 0, none⟩ (.int .i64 12)).setCell ⟨b + 1 + 1, 1, none⟩ (.string e0)).setCell ⟨b + 1 + 1, 2, none⟩ (.int .i64 0)).setCell ⟨b + 1 + 1, 3, none⟩ (nl)).setCell ⟨b + 1 + 1, 4, none⟩ (.slice v9a (1 + vn) v9c) = wF from hwF.out]
    clear y0 y1 y2 y3 v0 v1 v2 v3 m0 m1 m2 m3 m4 o0 o1 o2 o3 o4
    have E1' := E1.out
    have E2' : wF.heap[b + 1 + 1]? = some (.cells #[.int .i64 12, .string e0, .int .i64 0, nl, .slice v9a (1 + vn) v9c] 30 (0, 0)) := E2.out
    obtain ⟨⟨t0, t1, t2, t3⟩, _⟩ := four_cells E1'
    obtain ⟨⟨s0, s1, s2, s3, s4⟩, _⟩ := five_cells E2'
    refine bodyPost_ret (v := .tuple #[stv x q3, trv (12) (e0) (0) (nl) (.slice v9a (1 + vn) v9c)]) (by simp [results, Tryz.results92, go_sem, t0, t1, t2, t3, s0, s1, s2, s3, s4]) rfl ⟨12, e0, 0, none, 0, 0, v9a, 1 + vn, v9c, rfl, E3.out, hqF.out, E4.out⟩
end Go.Proofs.YtggkjkkbkpnkiaaGreatDoor
