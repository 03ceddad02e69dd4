/-
  The reference's prim: what stands alone.
-/
import Derived.Test.YtggkjkkbkpnkiaaGreatDoorRL
import Derived.Test.YtggkjkkbkpnkiaaGreatDoorGI
import Derived.Test.YtggkjkkbkpnkiaaGreatDoorRD
set_option linter.unusedVariables false
set_option linter.unusedSimpArgs false
namespace Go.Proofs.YtggkjkkbkpnkiaaGreatDoor
open Go.RowKit Go.Maps
variable {x : Kx} {W W' : World} {p p' : Ps}
theorem RowBG.sb {A : Nat → Prop} {bs : List Int} {v : Value} (h : RowBG A W bs v) : Sb W v bs := by
  rcases h with ⟨rfl, a, c, rfl⟩ | ⟨g, o, cap, rfl, hg, hc⟩
  · cases a with
    | none => exact .inl ⟨c, rfl, rfl⟩
    | some a => exact .inr ⟨a, c, rfl, fun j u h => by simp [u8s] at h⟩
  · refine .inr ⟨_, cap, rfl, fun j u h => ?_⟩
    have hadd : (⟨g, o, none⟩ : Addr).add j = ⟨g, o + j, none⟩ := by unfold Addr.add; split <;> simp_all
    rw [hadd]
    exact hc j u h
section
variable {ops : Array Oper} {o : Oper} {a : Act} {w : World} {K : Act → World → Prop} {Q : Exit → Act → World → Prop} {E : Prop}
theorem step_bytes (hgd : o.guard = none) (t1 t2 : Operand) (ho : o.op = .call { callee := .builtin .append, args := #[t1, t2], argTypes := #[25, 25] }) (base : Nat) (v s : Value) (l m : List Int) (hx : a.eval t1 = v) (hy : a.eval t2 = s)
    (hv : Ob base w v l) (hs : Sb w s m) (hlen : l.length + m.length ≤ 1000000) (hbase : base ≤ w.heap.size)
    (h : ∀ v' w', Ob base w' v' (l ++ m) → Loc v w v' w' → K (a.put o.dst v') w') :
    if Region.wanted o (yielded ops a.tmps) = true then Oper.wp Tryz.prog o a w K Q else E := by
  have hw : Region.wanted o (yielded ops a.tmps) = true := by simp [Region.wanted, hgd]
  rw [if_pos hw]
  obtain ⟨v', w', hr, h1, h2⟩ := ap_run w o.type base v s l m hv hs hlen hbase
  unfold Oper.wp execOp
  simp only [ho, resolve, invoke, builtin, Sem.run_bind, Sem.run_pure, Result.andThen_ok, List.map_toArray, List.map_cons, List.map_nil, hx, hy, hr]
  exact h v' w' h1 h2
end
theorem kind_lt {ts : List Tn} {q : Ps} (h : (pkT ts q).k ≠ 0) : q.e = 0 ∧ q.i < ts.length := by
  by_cases he : q.e = 0
  · refine ⟨he, ?_⟩
    rcases Nat.lt_or_ge q.i ts.length with hl | hl
    · exact hl
    · exfalso; apply h
      rw [pkT, if_pos he, List.getElem?_eq_none hl]; rfl
  · exfalso; apply h
    rw [pkT, if_neg he]
abbrev tkcells (T : Tn) (v : Value) : Obj := .cells #[.int .i64 T.k, .string T.s, .int .i64 T.n, v, .int .i64 T.o] 27
/-- A token read: its block, one token further. -/
theorem tok_new {w2 X : World} {b : Nat} {T : Tn} {v : Value} {o : Obj} (h0 : w2.heap[b]? = some (stb x p)) (hX : (w2.setCell ⟨b, 1, none⟩ (.int .i64 ((p.i : Int) + 1))).alloc o = X) :
    Gr (fun k => k = b) w2 X ∧ X.heap[b]? = some (stb x p.next) ∧ X.heap[w2.heap.size]? = some o ∧ X.heap.size = w2.heap.size + 1 := by
  subst hX
  have gs : Gr (fun k => k = b) w2 (w2.setCell ⟨b, 1, none⟩ (.int .i64 ((p.i : Int) + 1))) := Gr.set _ _ _ rfl
  have S0 : (w2.setCell ⟨b, 1, none⟩ (.int .i64 ((p.i : Int) + 1))).heap[b]? = some (stb x p.next) := heap_setCell_same w2 b 1 _ 45 _ h0
  have ga := Gr.alloc (w2.setCell ⟨b, 1, none⟩ (.int .i64 ((p.i : Int) + 1))) o (fun _ => False)
  refine ⟨gs.trans (ga.any _), ga.keep S0 (fun e => e), ?_, by simp⟩
  have := heap_alloc_new (w2.setCell ⟨b, 1, none⟩ (.int .i64 ((p.i : Int) + 1))) o
  simpa using this
set_option maxRecDepth 100000 in
set_option maxHeartbeats 1200000 in
theorem rprim_int (h : Rz x W p) (hk : (pkT x.ts p).k = 1) : Calls Tryz.prog 84 #[stv x p] W fun e w' => EndX x W p e w' ((.mk 1 e0 (pkT x.ts p).n [] [], p.next)) := by
  have hd : p.d = p.d := rfl
  obtain ⟨g0, b0, b1, b2, hz0⟩ := open3 (x := x) W p
  obtain ⟨b, hb⟩ : ∃ b, W.heap.size = b := ⟨_, rfl⟩
  have Hd := Lib.hid hd
  have hbW := Lib.hid hb
  have hNb : Hid (x.N ≤ b) := by have := h.hN; show _ ≤ _; omega
  have R0 := Lib.hid (h.g0 g0)
  have hnz : (pkT x.ts p).k ≠ 0 := by rw [hk]; decide
  obtain ⟨he, hl⟩ := kind_lt hnz
  have hkind := rkind_c (h.g0 g0)
  rw [hk] at hkind
  have hi := h.hi
  have hm := h.hm
  replace he := Lib.hid he
  obtain ⟨r, hr⟩ : ∃ r : Tr × Ps, r = (.mk 1 e0 (pkT x.ts p).n [] [], p.next) := ⟨_, rfl⟩
  rw [← hr]
  have Hr := Lib.hid hr
  clear hd h hnz hr
  go_enter Tryz.func84, Tryz.ntmps84
  go_wp2_with fail
  generalize ((W.alloc _).alloc _).alloc _ = W1 at g0 b0 b1 b2 hz0 R0 hkind ⊢
  rw [hb] at b0 b1 b2 hz0
  refine hkind.mono ?_
  rintro e w2 ⟨rfl, g2⟩
  have C0 := g2.keep b0 (fun e => e)
  have C1 := Lib.hid (g2.keep b1 (fun e => e))
  have C2 := Lib.hid (g2.keep b2 (fun e => e))
  have R2 := R0.out.g0 g2
  have G2' := Lib.hid (g0.trans g2)
  have hbw : b < w2.heap.size := (Array.getElem?_eq_some_iff.1 C0).1
  have hbw2 : Hid (b + 3 ≤ w2.heap.size) := by have := g2.size; show _ ≤ _; omega
  obtain ⟨ht, hrow, g, o, hxa, hgN, hc⟩ := R2.at he.out hl
  obtain ⟨va, vc, hpb⟩ := hrow.sv
  have hBl := Lib.hid (R2.hB _ (List.mem_of_getElem? ht))
  obtain ⟨T, hT⟩ : ∃ T, pkT x.ts p = T := ⟨_, rfl⟩
  rw [hT] at hc hrow hpb hk hBl
  rw [hpb] at hc hrow
  replace hT := Lib.hid hT
  have t0 : w2.cell? ⟨g, o + p.i * 5, none⟩ = _ := hc 0 _ rfl
  have t1 := hc 1 _ rfl
  have t2 := hc 2 _ rfl
  have t3 := hc 3 _ rfl
  have t4 := hc 4 _ rfl
  have hgl : g < w2.heap.size := World.block_lt_of_cell? _ _ t0
  obtain ⟨⟨c0', c1, c2, c3⟩, f0, f1, f2, f3⟩ := four_cells C0
  have c0 : w2.cell? ⟨b, 0, none⟩ = some (.slice (some ⟨g, o, none⟩) x.ts.length x.c) := by rw [← hxa]; exact c0'
  obtain ⟨gX, X0, XT, hsX⟩ := tok_new (x := x) (T := T) (v := .slice va T.b.length vc) (o := tkcells T (.slice va T.b.length vc)) C0 rfl
  have hiI : (p.i : Int) ≤ 100000 := by omega
  have hNb' := hNb.out
  have RX : Hid (Rz x _ p.next) := (R2.gr gX (fun k hk e => by omega)).to (by show p.i + 1 ≤ _; omega) R2.hd
  have X1 := Lib.hid (gX.keep C1.out (by omega))
  have X2 := Lib.hid (gX.keep C2.out (by omega))
  have GX := Lib.hid (G2'.out.trans' gX (fun k hk e => by have := hbW.out; omega))
  have SbX : Hid (Sb _ (.slice va T.b.length vc) T.b) := (RowBG.turn (fun z hz hzl => ⟨hz, gX.block z hzl (by omega)⟩) hrow).sb
  have hqi : Hid (p.next.d = p.d ∧ p.next.i = p.i + 1 ∧ p.next.e = 0 ∧ p.i + 1 ≤ x.ts.length) := ⟨rfl, rfl, he.out, hl⟩
  clear C0 c0' hc ht hrow hxa b0 b1 b2 g0 g2 R0 R2 C1 C2 G2' hpb hkind hk
  go_wp2_with fail
  generalize (w2.setCell ⟨b, 1, none⟩ (.int .i64 ((p.i : Int) + 1))).alloc _ = X at gX X0 XT hsX RX X1 X2 GX SbX ⊢
  obtain ⟨tb, htb⟩ : ∃ tb, w2.heap.size = tb := ⟨_, rfl⟩
  rw [htb] at XT hsX hbw2 ⊢
  obtain ⟨q, hq⟩ : ∃ q, p.next = q := ⟨_, rfl⟩
  rw [hq] at X0 RX hqi
  replace hq := Lib.hid hq
  clear c0 c1 c2 c3 f0 f1 f2 f3 t0 t1 t2 t3 t4 gX hiI hbw
  have D0 : X.drew.heap[b]? = some (stb x q) := X0
  have D1 : X.drew.heap[b + 1]? = some zs := X1.out
  have D2 : X.drew.heap[b + 2]? = some zt := X2.out
  have DT : X.drew.heap[tb]? = some (tkcells T (.slice va T.b.length vc)) := XT
  have Gd : Hid (Gr (fun _ => False) W X.drew) := GX.out.trans (Gr.drew X _)
  have hs9 : tb + 1 ≤ X.drew.heap.size := by show tb + 1 ≤ X.heap.size; omega
  have hb9 := hbw2.out
  have SbD : Sb X.drew (.slice va T.b.length vc) T.b := SbX.out.gr (Gr.drew X _)
  have TS : Gr (fun k => k = b + 1 ∨ k = b + 2) X.drew X.drew := Gr.refl _ _
  refine wp_region_L (L := 100) (T := fun w => Gr (fun k => k = b + 1 ∨ k = b + 2) X.drew w) (by kernel_rfl) ?_
  generalize X.drew = wd at TS D0 D1 D2 DT Gd hs9 SbD ⊢
  obtain ⟨⟨d0, d1, d2, d3⟩, _⟩ := four_cells D0
  obtain ⟨⟨k0, k1, k2, k3, k4⟩, _⟩ := five_cells DT
  refine wpAnyN_at (i := 0) (v := (.agg #[.slice x.a x.ts.length x.c, .int .i64 (q.i : Int), .int .i64 (q.d : Int), .int .i64 q.e])) (some 34) rfl rfl (by kernel_rfl) (by kernel_rfl) (by kernel_rfl) (by kernel_rfl) (fun _ _ _ h => h) (Or.inl ⟨by rfl, ?_⟩) TS ?_
  · intro w hSw
    have qq0 := cell_gr d0 hSw (by show ¬ (_ ∨ _); omega)
    have qq1 := cell_gr d1 hSw (by show ¬ (_ ∨ _); omega)
    have qq2 := cell_gr d2 hSw (by show ¬ (_ ∨ _); omega)
    have qq3 := cell_gr d3 hSw (by show ¬ (_ ∨ _); omega)
    have qz := World.block_lt_of_cell? _ _ qq0
    go_simp
    try (intro h; exfalso; omega)
  try simp only [Act.put, List.setIfInBounds_toArray, List.set_cons_zero, List.set_cons_succ]
  refine wpAnyN_at (i := 1) (v := (ptr tb 2)) (some 35) rfl rfl (by kernel_rfl) (by kernel_rfl) (by kernel_rfl) (by kernel_rfl) (fun _ _ _ h => h) (Or.inl ⟨by rfl, ?_⟩) TS ?_
  · intro w hSw
    go_simp
    try (intro h; exfalso; omega)
  try simp only [Act.put, List.setIfInBounds_toArray, List.set_cons_zero, List.set_cons_succ]
  refine wpAnyN_at (i := 2) (v := (.int .i64 T.n)) (some 36) rfl rfl (by kernel_rfl) (by kernel_rfl) (by kernel_rfl) (by kernel_rfl) (fun _ _ _ h => h) (Or.inl ⟨by rfl, ?_⟩) TS ?_
  · intro w hSw
    have qq0 := cell_gr k2 hSw (by show ¬ (_ ∨ _); omega)
    have qz := World.block_lt_of_cell? _ _ qq0
    go_simp
    try (intro h; exfalso; omega)
  try simp only [Act.put, List.setIfInBounds_toArray, List.set_cons_zero, List.set_cons_succ]
  refine wpAnyN_at (i := 3) (v := (.agg #[.int .i64 1, .string e0, .int .i64 T.n, nl, nl])) (some 37) rfl rfl (by kernel_rfl) (by kernel_rfl) (by kernel_rfl) (by kernel_rfl) (fun _ _ _ h => h) (Or.inl ⟨by rfl, ?_⟩) TS ?_
  · intro w hSw
    go_simp
    try (intro h; exfalso; omega)
  try simp only [Act.put, List.setIfInBounds_toArray, List.set_cons_zero, List.set_cons_succ]
  obtain ⟨E1, E2, E3, E4⟩ := end3 (x := x) (q := q) (T := (.mk 1 e0 T.n [] [])) (k := 1) (s := e0) (n := T.n) (bv := nl) (lv := nl) (Gd.out) hbW.out D1 D2 (fun he => ⟨nl, nl, [], rfl, .inl ⟨rfl, _, _, rfl⟩, .inl ⟨rfl, _, _, rfl⟩, rfl⟩)
  obtain ⟨wF, hwF⟩ : ∃ wF, set5 (set4 wd (b + 1) (.slice x.a x.ts.length x.c) (.int .i64 (q.i : Int)) (.int .i64 (q.d : Int)) (.int .i64 q.e)) (b + 2) (.int .i64 1) (.string e0) (.int .i64 T.n) (nl) (nl) = wF := ⟨_, rfl⟩
  rw [hwF] at E1 E2 E3 E4
  replace E1 := Lib.hid E1
  replace E2 := Lib.hid E2
  replace E3 := Lib.hid E3
  replace E4 := Lib.hid E4
  replace hwF := Lib.hid hwF
  obtain ⟨⟨y0, y1, y2, y3⟩, v0, v1, v2, v3⟩ := four_cells D1
  obtain ⟨⟨m0, m1, m2, m3, m4⟩, o0, o1, o2, o3, o4⟩ := five_cells D2
  have hlz : b + 2 < wd.heap.size := (Array.getElem?_eq_some_iff.1 D2).1
  have hlz' : b + 1 < wd.heap.size := by omega
  have TA : Gr (fun k => k = b + 1 ∨ k = b + 2) wd (set4 wd (b + 1) (.slice x.a x.ts.length x.c) (.int .i64 (q.i : Int)) (.int .i64 (q.d : Int)) (.int .i64 q.e)) := (TS).trans' (set4_gr wd (b + 1) _ _ _ _) (fun _ _ e => .inl e)
  have TB : Gr (fun k => k = b + 1 ∨ k = b + 2) wd (set5 (set4 wd (b + 1) (.slice x.a x.ts.length x.c) (.int .i64 (q.i : Int)) (.int .i64 (q.d : Int)) (.int .i64 q.e)) (b + 2) (.int .i64 1) (.string e0) (.int .i64 T.n) (nl) (nl)) := TA.trans' (set5_gr _ (b + 2) _ _ _ _ _) (fun _ _ e => .inr e)
  refine wpAnyL_one (i := 4) (by kernel_rfl) rfl (fun K hK => ?_)
  go_simp
  refine hK.out _ _ (fun _ => TA) ?_
  clear hK K
  try simp only [Act.put, List.setIfInBounds_toArray, List.set_cons_zero, List.set_cons_succ]
  refine wpAnyL_one (i := 5) (by kernel_rfl) rfl (fun K hK => ?_)
  go_simp
  refine hK.out _ _ (fun _ => TB) ?_
  clear hK K
  try simp only [Act.put, List.setIfInBounds_toArray, List.set_cons_zero, List.set_cons_succ]
  refine wpAnyL_done (by kernel_rfl) ?_ _
  refine NoPanic.normal ?_
  clear TS TA TB
  go_wp2_with fail
  have hr9 : r = ((.mk 1 e0 T.n [] []), q) := by
    rw [Hr.out]
    rw [hT.out, hq.out]
  rw [hr9]
  rw [show ((((((((wd.setCell ⟨b + 1, 0, none⟩ (.slice x.a x.ts.length x.c)).setCell ⟨b + 1, 1, none⟩ (.int .i64 (q.i : Int))).setCell ⟨b + 1, 2, none⟩ (.int .i64 (q.d : Int))).setCell ⟨b + 1, 3, none⟩ (.int .i64 q.e)).setCell ⟨b + 1 + 1, 0, none⟩ (.int .i64 1)).setCell ⟨b + 1 + 1, 1, none⟩ (.string e0)).setCell ⟨b + 1 + 1, 2, none⟩ (.int .i64 T.n)).setCell ⟨b + 1 + 1, 3, none⟩ (nl)).setCell ⟨b + 1 + 1, 4, none⟩ (nl) = wF from hwF.out]
  clear y0 y1 y2 y3 v0 v1 v2 v3 m0 m1 m2 m3 m4 o0 o1 o2 o3 o4
  have E1' := E1.out
  have E2' : wF.heap[b + 1 + 1]? = some (.cells #[.int .i64 1, .string e0, .int .i64 T.n, nl, nl] 30 (0, 0)) := E2.out
  obtain ⟨⟨t0, t1, t2, t3⟩, _⟩ := four_cells E1'
  obtain ⟨⟨s0, s1, s2, s3, s4⟩, _⟩ := five_cells E2'
  refine bodyPost_ret (v := .tuple #[stv x q, trv (1) (e0) (T.n) (nl) (nl)]) (by simp [results, Tryz.results84, go_sem, t0, t1, t2, t3, s0, s1, s2, s3, s4]) rfl ⟨1, e0, T.n, none, 0, 0, none, 0, 0, rfl, E3.out, ⟨by have := hqi.out; show q.d = p.d; omega, by have := hqi.out; show p.i ≤ q.i; omega, by have := hqi.out; show q.i ≤ _; omega⟩, E4.out⟩
set_option maxRecDepth 100000 in
set_option maxHeartbeats 1200000 in
theorem rprim_var (h : Rz x W p) (hk : (pkT x.ts p).k = 3) : Calls Tryz.prog 84 #[stv x p] W fun e w' => EndX x W p e w' ((.mk 3 (pkT x.ts p).s 0 [] [], p.next)) := by
  have hd : p.d = p.d := rfl
  obtain ⟨g0, b0, b1, b2, hz0⟩ := open3 (x := x) W p
  obtain ⟨b, hb⟩ : ∃ b, W.heap.size = b := ⟨_, rfl⟩
  have Hd := Lib.hid hd
  have hbW := Lib.hid hb
  have hNb : Hid (x.N ≤ b) := by have := h.hN; show _ ≤ _; omega
  have R0 := Lib.hid (h.g0 g0)
  have hnz : (pkT x.ts p).k ≠ 0 := by rw [hk]; decide
  obtain ⟨he, hl⟩ := kind_lt hnz
  have hkind := rkind_c (h.g0 g0)
  rw [hk] at hkind
  have hi := h.hi
  have hm := h.hm
  replace he := Lib.hid he
  obtain ⟨r, hr⟩ : ∃ r : Tr × Ps, r = (.mk 3 (pkT x.ts p).s 0 [] [], p.next) := ⟨_, rfl⟩
  rw [← hr]
  have Hr := Lib.hid hr
  clear hd h hnz hr
  go_enter Tryz.func84, Tryz.ntmps84
  go_wp2_with fail
  generalize ((W.alloc _).alloc _).alloc _ = W1 at g0 b0 b1 b2 hz0 R0 hkind ⊢
  rw [hb] at b0 b1 b2 hz0
  refine hkind.mono ?_
  rintro e w2 ⟨rfl, g2⟩
  have C0 := g2.keep b0 (fun e => e)
  have C1 := Lib.hid (g2.keep b1 (fun e => e))
  have C2 := Lib.hid (g2.keep b2 (fun e => e))
  have R2 := R0.out.g0 g2
  have G2' := Lib.hid (g0.trans g2)
  have hbw : b < w2.heap.size := (Array.getElem?_eq_some_iff.1 C0).1
  have hbw2 : Hid (b + 3 ≤ w2.heap.size) := by have := g2.size; show _ ≤ _; omega
  obtain ⟨ht, hrow, g, o, hxa, hgN, hc⟩ := R2.at he.out hl
  obtain ⟨va, vc, hpb⟩ := hrow.sv
  have hBl := Lib.hid (R2.hB _ (List.mem_of_getElem? ht))
  obtain ⟨T, hT⟩ : ∃ T, pkT x.ts p = T := ⟨_, rfl⟩
  rw [hT] at hc hrow hpb hk hBl
  rw [hpb] at hc hrow
  replace hT := Lib.hid hT
  have t0 : w2.cell? ⟨g, o + p.i * 5, none⟩ = _ := hc 0 _ rfl
  have t1 := hc 1 _ rfl
  have t2 := hc 2 _ rfl
  have t3 := hc 3 _ rfl
  have t4 := hc 4 _ rfl
  have hgl : g < w2.heap.size := World.block_lt_of_cell? _ _ t0
  obtain ⟨⟨c0', c1, c2, c3⟩, f0, f1, f2, f3⟩ := four_cells C0
  have c0 : w2.cell? ⟨b, 0, none⟩ = some (.slice (some ⟨g, o, none⟩) x.ts.length x.c) := by rw [← hxa]; exact c0'
  obtain ⟨gX, X0, XT, hsX⟩ := tok_new (x := x) (T := T) (v := .slice va T.b.length vc) (o := tkcells T (.slice va T.b.length vc)) C0 rfl
  have hiI : (p.i : Int) ≤ 100000 := by omega
  have hNb' := hNb.out
  have RX : Hid (Rz x _ p.next) := (R2.gr gX (fun k hk e => by omega)).to (by show p.i + 1 ≤ _; omega) R2.hd
  have X1 := Lib.hid (gX.keep C1.out (by omega))
  have X2 := Lib.hid (gX.keep C2.out (by omega))
  have GX := Lib.hid (G2'.out.trans' gX (fun k hk e => by have := hbW.out; omega))
  have SbX : Hid (Sb _ (.slice va T.b.length vc) T.b) := (RowBG.turn (fun z hz hzl => ⟨hz, gX.block z hzl (by omega)⟩) hrow).sb
  have hqi : Hid (p.next.d = p.d ∧ p.next.i = p.i + 1 ∧ p.next.e = 0 ∧ p.i + 1 ≤ x.ts.length) := ⟨rfl, rfl, he.out, hl⟩
  clear C0 c0' hc ht hrow hxa b0 b1 b2 g0 g2 R0 R2 C1 C2 G2' hpb hkind hk
  go_wp2_with fail
  generalize (w2.setCell ⟨b, 1, none⟩ (.int .i64 ((p.i : Int) + 1))).alloc _ = X at gX X0 XT hsX RX X1 X2 GX SbX ⊢
  obtain ⟨tb, htb⟩ : ∃ tb, w2.heap.size = tb := ⟨_, rfl⟩
  rw [htb] at XT hsX hbw2 ⊢
  obtain ⟨q, hq⟩ : ∃ q, p.next = q := ⟨_, rfl⟩
  rw [hq] at X0 RX hqi
  replace hq := Lib.hid hq
  clear c0 c1 c2 c3 f0 f1 f2 f3 t0 t1 t2 t3 t4 gX hiI hbw
  have D0 : X.drew.heap[b]? = some (stb x q) := X0
  have D1 : X.drew.heap[b + 1]? = some zs := X1.out
  have D2 : X.drew.heap[b + 2]? = some zt := X2.out
  have DT : X.drew.heap[tb]? = some (tkcells T (.slice va T.b.length vc)) := XT
  have Gd : Hid (Gr (fun _ => False) W X.drew) := GX.out.trans (Gr.drew X _)
  have hs9 : tb + 1 ≤ X.drew.heap.size := by show tb + 1 ≤ X.heap.size; omega
  have hb9 := hbw2.out
  have SbD : Sb X.drew (.slice va T.b.length vc) T.b := SbX.out.gr (Gr.drew X _)
  have TS : Gr (fun k => k = b + 1 ∨ k = b + 2) X.drew X.drew := Gr.refl _ _
  refine wp_region_L (L := 100) (T := fun w => Gr (fun k => k = b + 1 ∨ k = b + 2) X.drew w) (by kernel_rfl) ?_
  generalize X.drew = wd at TS D0 D1 D2 DT Gd hs9 SbD ⊢
  obtain ⟨⟨d0, d1, d2, d3⟩, _⟩ := four_cells D0
  obtain ⟨⟨k0, k1, k2, k3, k4⟩, _⟩ := five_cells DT
  refine wpAnyN_at (i := 0) (v := (.agg #[.slice x.a x.ts.length x.c, .int .i64 (q.i : Int), .int .i64 (q.d : Int), .int .i64 q.e])) (some 40) rfl rfl (by kernel_rfl) (by kernel_rfl) (by kernel_rfl) (by kernel_rfl) (fun _ _ _ h => h) (Or.inl ⟨by rfl, ?_⟩) TS ?_
  · intro w hSw
    have qq0 := cell_gr d0 hSw (by show ¬ (_ ∨ _); omega)
    have qq1 := cell_gr d1 hSw (by show ¬ (_ ∨ _); omega)
    have qq2 := cell_gr d2 hSw (by show ¬ (_ ∨ _); omega)
    have qq3 := cell_gr d3 hSw (by show ¬ (_ ∨ _); omega)
    have qz := World.block_lt_of_cell? _ _ qq0
    go_simp
    try (intro h; exfalso; omega)
  try simp only [Act.put, List.setIfInBounds_toArray, List.set_cons_zero, List.set_cons_succ]
  refine wpAnyN_at (i := 1) (v := (ptr tb 1)) (some 41) rfl rfl (by kernel_rfl) (by kernel_rfl) (by kernel_rfl) (by kernel_rfl) (fun _ _ _ h => h) (Or.inl ⟨by rfl, ?_⟩) TS ?_
  · intro w hSw
    go_simp
    try (intro h; exfalso; omega)
  try simp only [Act.put, List.setIfInBounds_toArray, List.set_cons_zero, List.set_cons_succ]
  refine wpAnyN_at (i := 2) (v := (.string T.s)) (some 42) rfl rfl (by kernel_rfl) (by kernel_rfl) (by kernel_rfl) (by kernel_rfl) (fun _ _ _ h => h) (Or.inl ⟨by rfl, ?_⟩) TS ?_
  · intro w hSw
    have qq0 := cell_gr k1 hSw (by show ¬ (_ ∨ _); omega)
    have qz := World.block_lt_of_cell? _ _ qq0
    go_simp
    try (intro h; exfalso; omega)
  try simp only [Act.put, List.setIfInBounds_toArray, List.set_cons_zero, List.set_cons_succ]
  refine wpAnyN_at (i := 3) (v := (.agg #[.int .i64 3, .string T.s, .int .i64 0, nl, nl])) (some 43) rfl rfl (by kernel_rfl) (by kernel_rfl) (by kernel_rfl) (by kernel_rfl) (fun _ _ _ h => h) (Or.inl ⟨by rfl, ?_⟩) TS ?_
  · intro w hSw
    go_simp
    try (intro h; exfalso; omega)
  try simp only [Act.put, List.setIfInBounds_toArray, List.set_cons_zero, List.set_cons_succ]
  obtain ⟨E1, E2, E3, E4⟩ := end3 (x := x) (q := q) (T := (.mk 3 T.s 0 [] [])) (k := 3) (s := T.s) (n := 0) (bv := nl) (lv := nl) (Gd.out) hbW.out D1 D2 (fun he => ⟨nl, nl, [], rfl, .inl ⟨rfl, _, _, rfl⟩, .inl ⟨rfl, _, _, rfl⟩, rfl⟩)
  obtain ⟨wF, hwF⟩ : ∃ wF, set5 (set4 wd (b + 1) (.slice x.a x.ts.length x.c) (.int .i64 (q.i : Int)) (.int .i64 (q.d : Int)) (.int .i64 q.e)) (b + 2) (.int .i64 3) (.string T.s) (.int .i64 0) (nl) (nl) = wF := ⟨_, rfl⟩
  rw [hwF] at E1 E2 E3 E4
  replace E1 := Lib.hid E1
  replace E2 := Lib.hid E2
  replace E3 := Lib.hid E3
  replace E4 := Lib.hid E4
  replace hwF := Lib.hid hwF
  obtain ⟨⟨y0, y1, y2, y3⟩, v0, v1, v2, v3⟩ := four_cells D1
  obtain ⟨⟨m0, m1, m2, m3, m4⟩, o0, o1, o2, o3, o4⟩ := five_cells D2
  have hlz : b + 2 < wd.heap.size := (Array.getElem?_eq_some_iff.1 D2).1
  have hlz' : b + 1 < wd.heap.size := by omega
  have TA : Gr (fun k => k = b + 1 ∨ k = b + 2) wd (set4 wd (b + 1) (.slice x.a x.ts.length x.c) (.int .i64 (q.i : Int)) (.int .i64 (q.d : Int)) (.int .i64 q.e)) := (TS).trans' (set4_gr wd (b + 1) _ _ _ _) (fun _ _ e => .inl e)
  have TB : Gr (fun k => k = b + 1 ∨ k = b + 2) wd (set5 (set4 wd (b + 1) (.slice x.a x.ts.length x.c) (.int .i64 (q.i : Int)) (.int .i64 (q.d : Int)) (.int .i64 q.e)) (b + 2) (.int .i64 3) (.string T.s) (.int .i64 0) (nl) (nl)) := TA.trans' (set5_gr _ (b + 2) _ _ _ _ _) (fun _ _ e => .inr e)
  refine wpAnyL_one (i := 4) (by kernel_rfl) rfl (fun K hK => ?_)
  go_simp
  refine hK.out _ _ (fun _ => TA) ?_
  clear hK K
  try simp only [Act.put, List.setIfInBounds_toArray, List.set_cons_zero, List.set_cons_succ]
  refine wpAnyL_one (i := 5) (by kernel_rfl) rfl (fun K hK => ?_)
  go_simp
  refine hK.out _ _ (fun _ => TB) ?_
  clear hK K
  try simp only [Act.put, List.setIfInBounds_toArray, List.set_cons_zero, List.set_cons_succ]
  refine wpAnyL_done (by kernel_rfl) ?_ _
  refine NoPanic.normal ?_
  clear TS TA TB
  go_wp2_with fail
  have hr9 : r = ((.mk 3 T.s 0 [] []), q) := by
    rw [Hr.out]
    rw [hT.out, hq.out]
  rw [hr9]
  rw [show ((((((((wd.setCell ⟨b + 1, 0, none⟩ (.slice x.a x.ts.length x.c)).setCell ⟨b + 1, 1, none⟩ (.int .i64 (q.i : Int))).setCell ⟨b + 1, 2, none⟩ (.int .i64 (q.d : Int))).setCell ⟨b + 1, 3, none⟩ (.int .i64 q.e)).setCell ⟨b + 1 + 1, 0, none⟩ (.int .i64 3)).setCell ⟨b + 1 + 1, 1, none⟩ (.string T.s)).setCell ⟨b + 1 + 1, 2, none⟩ (.int .i64 0)).setCell ⟨b + 1 + 1, 3, none⟩ (nl)).setCell ⟨b + 1 + 1, 4, none⟩ (nl) = wF from hwF.out]
  clear y0 y1 y2 y3 v0 v1 v2 v3 m0 m1 m2 m3 m4 o0 o1 o2 o3 o4
  have E1' := E1.out
  have E2' : wF.heap[b + 1 + 1]? = some (.cells #[.int .i64 3, .string T.s, .int .i64 0, nl, nl] 30 (0, 0)) := E2.out
  obtain ⟨⟨t0, t1, t2, t3⟩, _⟩ := four_cells E1'
  obtain ⟨⟨s0, s1, s2, s3, s4⟩, _⟩ := five_cells E2'
  refine bodyPost_ret (v := .tuple #[stv x q, trv (3) (T.s) (0) (nl) (nl)]) (by simp [results, Tryz.results84, go_sem, t0, t1, t2, t3, s0, s1, s2, s3, s4]) rfl ⟨3, T.s, 0, none, 0, 0, none, 0, 0, rfl, E3.out, ⟨by have := hqi.out; show q.d = p.d; omega, by have := hqi.out; show p.i ≤ q.i; omega, by have := hqi.out; show q.i ≤ _; omega⟩, E4.out⟩
set_option maxRecDepth 100000 in
set_option maxHeartbeats 1200000 in
theorem rprim_bytes (h : Rz x W p) (hk : (pkT x.ts p).k = 4) : Calls Tryz.prog 84 #[stv x p] W fun e w' => EndX x W p e w' ((.mk 4 e0 0 (pkT x.ts p).b [], p.next)) := by
  have hd : p.d = p.d := rfl
  obtain ⟨g0, b0, b1, b2, hz0⟩ := open3 (x := x) W p
  obtain ⟨b, hb⟩ : ∃ b, W.heap.size = b := ⟨_, rfl⟩
  have Hd := Lib.hid hd
  have hbW := Lib.hid hb
  have hNb : Hid (x.N ≤ b) := by have := h.hN; show _ ≤ _; omega
  have R0 := Lib.hid (h.g0 g0)
  have hnz : (pkT x.ts p).k ≠ 0 := by rw [hk]; decide
  obtain ⟨he, hl⟩ := kind_lt hnz
  have hkind := rkind_c (h.g0 g0)
  rw [hk] at hkind
  have hi := h.hi
  have hm := h.hm
  replace he := Lib.hid he
  obtain ⟨r, hr⟩ : ∃ r : Tr × Ps, r = (.mk 4 e0 0 (pkT x.ts p).b [], p.next) := ⟨_, rfl⟩
  rw [← hr]
  have Hr := Lib.hid hr
  clear hd h hnz hr
  go_enter Tryz.func84, Tryz.ntmps84
  go_wp2_with fail
  generalize ((W.alloc _).alloc _).alloc _ = W1 at g0 b0 b1 b2 hz0 R0 hkind ⊢
  rw [hb] at b0 b1 b2 hz0
  refine hkind.mono ?_
  rintro e w2 ⟨rfl, g2⟩
  have C0 := g2.keep b0 (fun e => e)
  have C1 := Lib.hid (g2.keep b1 (fun e => e))
  have C2 := Lib.hid (g2.keep b2 (fun e => e))
  have R2 := R0.out.g0 g2
  have G2' := Lib.hid (g0.trans g2)
  have hbw : b < w2.heap.size := (Array.getElem?_eq_some_iff.1 C0).1
  have hbw2 : Hid (b + 3 ≤ w2.heap.size) := by have := g2.size; show _ ≤ _; omega
  obtain ⟨ht, hrow, g, o, hxa, hgN, hc⟩ := R2.at he.out hl
  obtain ⟨va, vc, hpb⟩ := hrow.sv
  have hBl := Lib.hid (R2.hB _ (List.mem_of_getElem? ht))
  obtain ⟨T, hT⟩ : ∃ T, pkT x.ts p = T := ⟨_, rfl⟩
  rw [hT] at hc hrow hpb hk hBl
  rw [hpb] at hc hrow
  replace hT := Lib.hid hT
  have t0 : w2.cell? ⟨g, o + p.i * 5, none⟩ = _ := hc 0 _ rfl
  have t1 := hc 1 _ rfl
  have t2 := hc 2 _ rfl
  have t3 := hc 3 _ rfl
  have t4 := hc 4 _ rfl
  have hgl : g < w2.heap.size := World.block_lt_of_cell? _ _ t0
  obtain ⟨⟨c0', c1, c2, c3⟩, f0, f1, f2, f3⟩ := four_cells C0
  have c0 : w2.cell? ⟨b, 0, none⟩ = some (.slice (some ⟨g, o, none⟩) x.ts.length x.c) := by rw [← hxa]; exact c0'
  obtain ⟨gX, X0, XT, hsX⟩ := tok_new (x := x) (T := T) (v := .slice va T.b.length vc) (o := tkcells T (.slice va T.b.length vc)) C0 rfl
  have hiI : (p.i : Int) ≤ 100000 := by omega
  have hNb' := hNb.out
  have RX : Hid (Rz x _ p.next) := (R2.gr gX (fun k hk e => by omega)).to (by show p.i + 1 ≤ _; omega) R2.hd
  have X1 := Lib.hid (gX.keep C1.out (by omega))
  have X2 := Lib.hid (gX.keep C2.out (by omega))
  have GX := Lib.hid (G2'.out.trans' gX (fun k hk e => by have := hbW.out; omega))
  have SbX : Hid (Sb _ (.slice va T.b.length vc) T.b) := (RowBG.turn (fun z hz hzl => ⟨hz, gX.block z hzl (by omega)⟩) hrow).sb
  have hqi : Hid (p.next.d = p.d ∧ p.next.i = p.i + 1 ∧ p.next.e = 0 ∧ p.i + 1 ≤ x.ts.length) := ⟨rfl, rfl, he.out, hl⟩
  clear C0 c0' hc ht hrow hxa b0 b1 b2 g0 g2 R0 R2 C1 C2 G2' hpb hkind hk
  go_wp2_with fail
  generalize (w2.setCell ⟨b, 1, none⟩ (.int .i64 ((p.i : Int) + 1))).alloc _ = X at gX X0 XT hsX RX X1 X2 GX SbX ⊢
  obtain ⟨tb, htb⟩ : ∃ tb, w2.heap.size = tb := ⟨_, rfl⟩
  rw [htb] at XT hsX hbw2 ⊢
  obtain ⟨q, hq⟩ : ∃ q, p.next = q := ⟨_, rfl⟩
  rw [hq] at X0 RX hqi
  replace hq := Lib.hid hq
  clear c0 c1 c2 c3 f0 f1 f2 f3 t0 t1 t2 t3 t4 gX hiI hbw
  have D0 : X.drew.heap[b]? = some (stb x q) := X0
  have D1 : X.drew.heap[b + 1]? = some zs := X1.out
  have D2 : X.drew.heap[b + 2]? = some zt := X2.out
  have DT : X.drew.heap[tb]? = some (tkcells T (.slice va T.b.length vc)) := XT
  have Gd : Hid (Gr (fun _ => False) W X.drew) := GX.out.trans (Gr.drew X _)
  have hs9 : tb + 1 ≤ X.drew.heap.size := by show tb + 1 ≤ X.heap.size; omega
  have hb9 := hbw2.out
  have SbD : Sb X.drew (.slice va T.b.length vc) T.b := SbX.out.gr (Gr.drew X _)
  have TS : Gr (fun k => k = b + 1 ∨ k = b + 2) X.drew X.drew := Gr.refl _ _
  refine wp_region_L (L := 100) (T := fun w => Gr (fun k => k = b + 1 ∨ k = b + 2) X.drew w) (by kernel_rfl) ?_
  generalize X.drew = wd at TS D0 D1 D2 DT Gd hs9 SbD ⊢
  obtain ⟨⟨d0, d1, d2, d3⟩, _⟩ := four_cells D0
  obtain ⟨⟨k0, k1, k2, k3, k4⟩, _⟩ := five_cells DT
  refine wpAnyN_at (i := 0) (v := (.agg #[.slice x.a x.ts.length x.c, .int .i64 (q.i : Int), .int .i64 (q.d : Int), .int .i64 q.e])) (some 46) rfl rfl (by kernel_rfl) (by kernel_rfl) (by kernel_rfl) (by kernel_rfl) (fun _ _ _ h => h) (Or.inl ⟨by rfl, ?_⟩) TS ?_
  · intro w hSw
    have qq0 := cell_gr d0 hSw (by show ¬ (_ ∨ _); omega)
    have qq1 := cell_gr d1 hSw (by show ¬ (_ ∨ _); omega)
    have qq2 := cell_gr d2 hSw (by show ¬ (_ ∨ _); omega)
    have qq3 := cell_gr d3 hSw (by show ¬ (_ ∨ _); omega)
    have qz := World.block_lt_of_cell? _ _ qq0
    go_simp
    try (intro h; exfalso; omega)
  try simp only [Act.put, List.setIfInBounds_toArray, List.set_cons_zero, List.set_cons_succ]
  refine wpAnyN_at (i := 2) (v := (ptr tb 3)) (some 48) rfl rfl (by kernel_rfl) (by kernel_rfl) (by kernel_rfl) (by kernel_rfl) (fun _ _ _ h => h) (Or.inl ⟨by rfl, ?_⟩) TS ?_
  · intro w hSw
    go_simp
    try (intro h; exfalso; omega)
  try simp only [Act.put, List.setIfInBounds_toArray, List.set_cons_zero, List.set_cons_succ]
  refine wpAnyN_at (i := 3) (v := (.slice va T.b.length vc)) (some 49) rfl rfl (by kernel_rfl) (by kernel_rfl) (by kernel_rfl) (by kernel_rfl) (fun _ _ _ h => h) (Or.inl ⟨by rfl, ?_⟩) TS ?_
  · intro w hSw
    have qq0 := cell_gr k3 hSw (by show ¬ (_ ∨ _); omega)
    have qz := World.block_lt_of_cell? _ _ qq0
    go_simp
    try (intro h; exfalso; omega)
  try simp only [Act.put, List.setIfInBounds_toArray, List.set_cons_zero, List.set_cons_succ]
  have TS8 : Gr (fun k => k = b + 1 ∨ k = b + 2) wd (wd.alloc (.cells #[] 5)) := Gr.alloc _ _ _
  refine wpAnyL_one (i := 1) (by kernel_rfl) rfl (fun K hK => ?_)
  go_simp
  refine hK.out _ _ (fun _ => TS8) ?_
  clear hK K
  try simp only [Act.put, List.setIfInBounds_toArray, List.set_cons_zero, List.set_cons_succ]
  have ho : Ob (b + 3) (wd.alloc (.cells #[] 5)) (.slice (some ⟨wd.heap.size, 0, none⟩) 0 0) [] := Ob.lit (b + 3) wd [] (by simp) (by omega) #[] rfl 0 rfl
  have g8 : Gr (fun _ => False) wd (wd.alloc (.cells #[] 5)) := Gr.alloc _ _ _
  have SbD8 := SbD.gr g8
  obtain ⟨nb, hnb⟩ : ∃ nb, wd.heap.size = nb := ⟨_, rfl⟩
  rw [hnb] at ho ⊢
  generalize wd.alloc (.cells #[] 5) = w8 at ho g8 SbD8 TS8 ⊢
  refine wpAnyL_one (i := 4) (by kernel_rfl) rfl (fun K hK => ?_)
  refine step_bytes rfl _ _ rfl (b + 3) (.slice (some ⟨nb, 0, none⟩) 0 0) (.slice va T.b.length vc) [] T.b rfl rfl ho SbD8 (by have := hBl.out; simp; omega) (by have := g8.size; omega) ?_
  intro v9 w9 o9 l9
  obtain ⟨v9a, v9c, rfl⟩ := o9.sv
  have Gw9 : Gr (fun k => k = nb) w8 w9 := l9.gr.mono (fun z _ e => by cases e; rfl)
  have TS9 : Gr (fun k => k = b + 1 ∨ k = b + 2) wd w9 := (g8.any _).trans' Gw9 (fun k hk e => by omega)
  refine hK.out _ _ (fun _ => TS9) ?_
  clear hK K
  try simp only [Act.put, List.setIfInBounds_toArray, List.set_cons_zero, List.set_cons_succ]
  have F1 := Gw9.keep (g8.keep D1 (fun e => e)) (by omega)
  have F2 := Gw9.keep (g8.keep D2 (fun e => e)) (by omega)
  have hR9 : q.e = 0 → Rep (fun z => b + 3 ≤ z) w9 (.mk 4 e0 0 T.b []) (trv 4 e0 0 (.slice v9a T.b.length v9c) nl) := fun he => ⟨_, nl, [], rfl, rowB_own (N := b + 3) (bs := T.b) (by have := o9.row; simpa [u8s] using this), .inl ⟨rfl, _, _, rfl⟩, rfl⟩
  refine wpAnyN_at (i := 5) (v := (.agg #[.int .i64 4, .string e0, .int .i64 0, .slice v9a T.b.length v9c, nl])) (some 51) rfl rfl (by kernel_rfl) (by kernel_rfl) (by kernel_rfl) (by kernel_rfl) (fun _ _ _ h => h) (Or.inl ⟨by rfl, ?_⟩) TS9 ?_
  · intro w hSw
    go_simp
    try (intro h; exfalso; omega)
  try simp only [Act.put, List.setIfInBounds_toArray, List.set_cons_zero, List.set_cons_succ]
  obtain ⟨E1, E2, E3, E4⟩ := end3 (x := x) (q := q) (T := (.mk 4 e0 0 T.b [])) (k := 4) (s := e0) (n := 0) (bv := .slice v9a T.b.length v9c) (lv := nl) ((Gd.out.trans g8).trans' Gw9 (fun k hk e => by have := hbW.out; have := Gd.out.size; omega)) hbW.out F1 F2 (hR9)
  obtain ⟨wF, hwF⟩ : ∃ wF, set5 (set4 w9 (b + 1) (.slice x.a x.ts.length x.c) (.int .i64 (q.i : Int)) (.int .i64 (q.d : Int)) (.int .i64 q.e)) (b + 2) (.int .i64 4) (.string e0) (.int .i64 0) (.slice v9a T.b.length v9c) (nl) = wF := ⟨_, rfl⟩
  rw [hwF] at E1 E2 E3 E4
  replace E1 := Lib.hid E1
  replace E2 := Lib.hid E2
  replace E3 := Lib.hid E3
  replace E4 := Lib.hid E4
  replace hwF := Lib.hid hwF
  obtain ⟨⟨y0, y1, y2, y3⟩, v0, v1, v2, v3⟩ := four_cells F1
  obtain ⟨⟨m0, m1, m2, m3, m4⟩, o0, o1, o2, o3, o4⟩ := five_cells F2
  have hlz : b + 2 < w9.heap.size := (Array.getElem?_eq_some_iff.1 F2).1
  have hlz' : b + 1 < w9.heap.size := by omega
  have TA : Gr (fun k => k = b + 1 ∨ k = b + 2) wd (set4 w9 (b + 1) (.slice x.a x.ts.length x.c) (.int .i64 (q.i : Int)) (.int .i64 (q.d : Int)) (.int .i64 q.e)) := (TS9).trans' (set4_gr w9 (b + 1) _ _ _ _) (fun _ _ e => .inl e)
  have TB : Gr (fun k => k = b + 1 ∨ k = b + 2) wd (set5 (set4 w9 (b + 1) (.slice x.a x.ts.length x.c) (.int .i64 (q.i : Int)) (.int .i64 (q.d : Int)) (.int .i64 q.e)) (b + 2) (.int .i64 4) (.string e0) (.int .i64 0) (.slice v9a T.b.length v9c) (nl)) := TA.trans' (set5_gr _ (b + 2) _ _ _ _ _) (fun _ _ e => .inr e)
  refine wpAnyL_one (i := 6) (by kernel_rfl) rfl (fun K hK => ?_)
  go_simp
  refine hK.out _ _ (fun _ => TA) ?_
  clear hK K
  try simp only [Act.put, List.setIfInBounds_toArray, List.set_cons_zero, List.set_cons_succ]
  refine wpAnyL_one (i := 7) (by kernel_rfl) rfl (fun K hK => ?_)
  go_simp
  refine hK.out _ _ (fun _ => TB) ?_
  clear hK K
  try simp only [Act.put, List.setIfInBounds_toArray, List.set_cons_zero, List.set_cons_succ]
  refine wpAnyL_done (by kernel_rfl) ?_ _
  refine NoPanic.normal ?_
  clear TS TA TB TS9
  go_wp2_with fail
  have hr9 : r = (.mk 4 e0 0 T.b [], q) := by
    rw [Hr.out]
    rw [hT.out, hq.out]
  rw [hr9]
  rw [show ((((((((w9.setCell ⟨b + 1, 0, none⟩ (.slice x.a x.ts.length x.c)).setCell ⟨b + 1, 1, none⟩ (.int .i64 (q.i : Int))).setCell ⟨b + 1, 2, none⟩ (.int .i64 (q.d : Int))).setCell ⟨b + 1, 3, none⟩ (.int .i64 q.e)).setCell ⟨b + 1 + 1, 0, none⟩ (.int .i64 4)).setCell ⟨b + 1 + 1, 1, none⟩ (.string e0)).setCell ⟨b + 1 + 1, 2, none⟩ (.int .i64 0)).setCell ⟨b + 1 + 1, 3, none⟩ (.slice v9a T.b.length v9c)).setCell ⟨b + 1 + 1, 4, none⟩ (nl) = wF from hwF.out]
  clear y0 y1 y2 y3 v0 v1 v2 v3 m0 m1 m2 m3 m4 o0 o1 o2 o3 o4
  have E1' := E1.out
  have E2' : wF.heap[b + 1 + 1]? = some (.cells #[.int .i64 4, .string e0, .int .i64 0, .slice v9a T.b.length v9c, nl] 30 (0, 0)) := E2.out
  obtain ⟨⟨t0, t1, t2, t3⟩, _⟩ := four_cells E1'
  obtain ⟨⟨s0, s1, s2, s3, s4⟩, _⟩ := five_cells E2'
  refine bodyPost_ret (v := .tuple #[stv x q, trv (4) (e0) (0) (.slice v9a T.b.length v9c) (nl)]) (by simp [results, Tryz.results84, go_sem, t0, t1, t2, t3, s0, s1, s2, s3, s4]) rfl ⟨4, e0, 0, v9a, T.b.length, v9c, none, 0, 0, rfl, E3.out, ⟨by have := hqi.out; show q.d = p.d; omega, by have := hqi.out; show p.i ≤ q.i; omega, by have := hqi.out; show q.i ≤ _; omega⟩, E4.out⟩
end Go.Proofs.YtggkjkkbkpnkiaaGreatDoor
