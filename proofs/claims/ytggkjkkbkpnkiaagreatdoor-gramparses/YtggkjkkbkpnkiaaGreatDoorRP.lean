/-
  The reference's prim: atoms and calls.
-/
import Derived.Test.YtggkjkkbkpnkiaaGreatDoorRO
import Derived.Test.YtggkjkkbkpnkiaaGreatDoorGG
set_option linter.unusedVariables false
set_option linter.unusedSimpArgs false
namespace Go.Proofs.YtggkjkkbkpnkiaaGreatDoor
open Go.RowKit Go.Maps
variable {x : Kx} {W W' : World} {p p' : Ps}
set_option maxRecDepth 100000 in
set_option maxHeartbeats 1600000 in
theorem rprim_atom (d : Nat) (ex : Rule) (hex : d < 40 → ROk x 39 (d + 1) ex) (h : Rz x W p) (hd : p.d = d) (hk : (pkT x.ts p).k = 2) : Calls Tryz.prog 84 #[stv x p] W fun e w' => EndX x W p e w' (atomV x.ts ex p) := by
  obtain ⟨g0, b0, b1, b2, hz0⟩ := open3 (x := x) W p
  obtain ⟨b, hb⟩ : ∃ b, W.heap.size = b := ⟨_, rfl⟩
  have Hd := Lib.hid hd
  have hbW := Lib.hid hb
  have hNb : Hid (x.N ≤ b) := by have := h.hN; show _ ≤ _; omega
  have R0 := Lib.hid (h.g0 g0)
  have hnz : (pkT x.ts p).k ≠ 0 := by rw [hk]; decide
  obtain ⟨he, hl⟩ := kind_lt hnz
  have hkind := rkind_c (h.g0 g0)
  rw [hk] at hkind
  have hi := h.hi
  have hm := h.hm
  replace he := Lib.hid he
  obtain ⟨r, hr⟩ : ∃ r : Tr × Ps, r = atomV x.ts ex p := ⟨_, rfl⟩
  rw [← hr]
  have Hr := Lib.hid hr
  clear hd h hnz hr
  go_enter Tryz.func84, Tryz.ntmps84
  go_wp2_with fail
  generalize ((W.alloc _).alloc _).alloc _ = W1 at g0 b0 b1 b2 hz0 R0 hkind ⊢
  rw [hb] at b0 b1 b2 hz0
  refine hkind.mono ?_
  rintro e w2 ⟨rfl, g2⟩
  have C0 := g2.keep b0 (fun e => e)
  have C1 := Lib.hid (g2.keep b1 (fun e => e))
  have C2 := Lib.hid (g2.keep b2 (fun e => e))
  have R2 := R0.out.g0 g2
  have G2' := Lib.hid (g0.trans g2)
  have hbw : b < w2.heap.size := (Array.getElem?_eq_some_iff.1 C0).1
  have hbw2 : Hid (b + 3 ≤ w2.heap.size) := by have := g2.size; show _ ≤ _; omega
  obtain ⟨ht, hrow, g, o, hxa, hgN, hc⟩ := R2.at he.out hl
  obtain ⟨va, vc, hpb⟩ := hrow.sv
  have hBl := Lib.hid (R2.hB _ (List.mem_of_getElem? ht))
  obtain ⟨T, hT⟩ : ∃ T, pkT x.ts p = T := ⟨_, rfl⟩
  rw [hT] at hc hrow hpb hk hBl
  rw [hpb] at hc hrow
  replace hT := Lib.hid hT
  have t0 : w2.cell? ⟨g, o + p.i * 5, none⟩ = _ := hc 0 _ rfl
  have t1 := hc 1 _ rfl
  have t2 := hc 2 _ rfl
  have t3 := hc 3 _ rfl
  have t4 := hc 4 _ rfl
  have hgl : g < w2.heap.size := World.block_lt_of_cell? _ _ t0
  obtain ⟨⟨c0', c1, c2, c3⟩, f0, f1, f2, f3⟩ := four_cells C0
  have c0 : w2.cell? ⟨b, 0, none⟩ = some (.slice (some ⟨g, o, none⟩) x.ts.length x.c) := by rw [← hxa]; exact c0'
  obtain ⟨gX, X0, XT, hsX⟩ := tok_new (x := x) (T := T) (v := .slice va T.b.length vc) (o := tkcells T (.slice va T.b.length vc)) C0 rfl
  have hiI : (p.i : Int) ≤ 100000 := by omega
  have hNb' := hNb.out
  have RX : Hid (Rz x _ p.next) := (R2.gr gX (fun k hk e => by omega)).to (by show p.i + 1 ≤ _; omega) R2.hd
  have X1 := Lib.hid (gX.keep C1.out (by omega))
  have X2 := Lib.hid (gX.keep C2.out (by omega))
  have GX := Lib.hid (G2'.out.trans' gX (fun k hk e => by have := hbW.out; omega))
  have SbX : Hid (Sb _ (.slice va T.b.length vc) T.b) := (RowBG.turn (fun z hz hzl => ⟨hz, gX.block z hzl (by omega)⟩) hrow).sb
  have hqi : Hid (p.next.d = p.d ∧ p.next.i = p.i + 1 ∧ p.next.e = 0 ∧ p.i + 1 ≤ x.ts.length) := ⟨rfl, rfl, he.out, hl⟩
  have his := Lib.hid (ris_c RX.out opn)
  have Hxa := Lib.hid hxa
  have hkT := Lib.hid hk
  have KRd := Lib.hid R2.hd
  clear C0 c0' hc ht hrow hxa b0 b1 b2 g0 g2 R0 R2 C1 C2 G2' hpb hkind hk
  go_wp2_with fail
  generalize (w2.setCell ⟨b, 1, none⟩ (.int .i64 ((p.i : Int) + 1))).alloc _ = X at gX X0 XT hsX RX X1 X2 GX SbX his ⊢
  obtain ⟨tb, htb⟩ : ∃ tb, w2.heap.size = tb := ⟨_, rfl⟩
  rw [htb] at XT hsX hbw2 ⊢
  clear gX
  rw [← Hxa.out]
  refine his.out.mono ?_
  rintro e w3 ⟨rfl, g3⟩
  have K0 := Lib.hid (g3.keep X0 (fun e => e))
  have K1 := Lib.hid (g3.keep X1.out (fun e => e))
  have K2 := Lib.hid (g3.keep X2.out (fun e => e))
  have KT := Lib.hid (g3.keep XT (fun e => e))
  have KG := Lib.hid (GX.out.trans g3)
  have KR := Lib.hid (RX.out.g0 g3)
  have hs3 : Hid (tb + 1 ≤ w3.heap.size) := by have := g3.size; show _ ≤ _; omega
  obtain ⟨q, hq⟩ : ∃ q, p.next = q := ⟨_, rfl⟩
  rw [hq] at K0 KR hqi ⊢
  replace hq := Lib.hid hq
  clear c0 c1 c2 c3 f0 f1 f2 f3 t0 t1 t2 t3 t4 hiI hbw X0 X1 X2 XT GX RX g3 his SbX hsX
  have Hr2 : Hid (r = if isV x.ts q opn = true then deeperV (callV x.ts T.s ex) q else (.mk 2 T.s 0 [] [], q)) := by
    show r = _
    have hn : nameV x.ts 2 p = (T.s, q) := by rw [nameV, hT.out, if_pos hkT.out, hq.out]
    rw [Hr.out, atomV, hn]
  have hq3 : Hid (q.e = 0 ∧ q.d = p.d ∧ q.i = p.i + 1 ∧ q.i ≤ x.ts.length) := by
    have h1 := hqi.out
    exact ⟨h1.2.2.1, h1.1, h1.2.1, by omega⟩
  clear Hr
  cases q0 : isV x.ts q opn with
  | false =>
    have Hr3 : Hid (r = (.mk 2 T.s 0 [] [], q)) := by show r = _; rw [Hr2.out, if_neg (by simp [q0])]
    clear q0 Hr2
    go_wp2_with fail
    have D0 : w3.drew.heap[b]? = some (stb x q) := K0.out
    have D1 : w3.drew.heap[b + 1]? = some zs := K1.out
    have D2 : w3.drew.heap[b + 2]? = some zt := K2.out
    have DT : w3.drew.heap[tb]? = some (tkcells T (.slice va T.b.length vc)) := KT.out
    have Gd : Hid (Gr (fun _ => False) W w3.drew) := KG.out.trans (Gr.drew w3 _)
    have hb9 := hbw2.out
    have TS : Gr (fun k => k = b + 1 ∨ k = b + 2) w3.drew w3.drew := Gr.refl _ _
    refine wp_region_L (L := 100) (T := fun w => Gr (fun k => k = b + 1 ∨ k = b + 2) w3.drew w) (by kernel_rfl) ?_
    generalize w3.drew = wd at TS D0 D1 D2 DT Gd ⊢
    obtain ⟨⟨d0, d1, d2, d3⟩, _⟩ := four_cells D0
    obtain ⟨⟨k0, k1, k2, k3, k4⟩, _⟩ := five_cells DT
    refine wpAnyN_at (i := 0) (v := (.agg #[.slice x.a x.ts.length x.c, .int .i64 (q.i : Int), .int .i64 (q.d : Int), .int .i64 q.e])) (some 55) rfl rfl (by kernel_rfl) (by kernel_rfl) (by kernel_rfl) (by kernel_rfl) (fun _ _ _ h => h) (Or.inl ⟨by rfl, ?_⟩) TS ?_
    · intro w hSw
      have qq0 := cell_gr d0 hSw (by show ¬ (_ ∨ _); omega)
      have qq1 := cell_gr d1 hSw (by show ¬ (_ ∨ _); omega)
      have qq2 := cell_gr d2 hSw (by show ¬ (_ ∨ _); omega)
      have qq3 := cell_gr d3 hSw (by show ¬ (_ ∨ _); omega)
      have qz := World.block_lt_of_cell? _ _ qq0
      go_simp
      try (intro h; exfalso; omega)
    try simp only [Act.put, List.setIfInBounds_toArray, List.set_cons_zero, List.set_cons_succ]
    refine wpAnyN_at (i := 1) (v := (ptr tb 1)) (some 56) rfl rfl (by kernel_rfl) (by kernel_rfl) (by kernel_rfl) (by kernel_rfl) (fun _ _ _ h => h) (Or.inl ⟨by rfl, ?_⟩) TS ?_
    · intro w hSw
      go_simp
      try (intro h; exfalso; omega)
    try simp only [Act.put, List.setIfInBounds_toArray, List.set_cons_zero, List.set_cons_succ]
    refine wpAnyN_at (i := 2) (v := (.string T.s)) (some 57) rfl rfl (by kernel_rfl) (by kernel_rfl) (by kernel_rfl) (by kernel_rfl) (fun _ _ _ h => h) (Or.inl ⟨by rfl, ?_⟩) TS ?_
    · intro w hSw
      have qq0 := cell_gr k1 hSw (by show ¬ (_ ∨ _); omega)
      have qz := World.block_lt_of_cell? _ _ qq0
      go_simp
      try (intro h; exfalso; omega)
    try simp only [Act.put, List.setIfInBounds_toArray, List.set_cons_zero, List.set_cons_succ]
    refine wpAnyN_at (i := 3) (v := (.agg #[.int .i64 2, .string T.s, .int .i64 0, nl, nl])) (some 58) rfl rfl (by kernel_rfl) (by kernel_rfl) (by kernel_rfl) (by kernel_rfl) (fun _ _ _ h => h) (Or.inl ⟨by rfl, ?_⟩) TS ?_
    · intro w hSw
      go_simp
      try (intro h; exfalso; omega)
    try simp only [Act.put, List.setIfInBounds_toArray, List.set_cons_zero, List.set_cons_succ]
    obtain ⟨E1, E2, E3, E4⟩ := end3 (x := x) (q := q) (T := (.mk 2 T.s 0 [] [])) (k := 2) (s := T.s) (n := 0) (bv := nl) (lv := nl) (Gd.out) hbW.out D1 D2 (fun he => ⟨nl, nl, [], rfl, .inl ⟨rfl, _, _, rfl⟩, .inl ⟨rfl, _, _, rfl⟩, rfl⟩)
    obtain ⟨wF, hwF⟩ : ∃ wF, set5 (set4 wd (b + 1) (.slice x.a x.ts.length x.c) (.int .i64 (q.i : Int)) (.int .i64 (q.d : Int)) (.int .i64 q.e)) (b + 2) (.int .i64 2) (.string T.s) (.int .i64 0) (nl) (nl) = wF := ⟨_, rfl⟩
    rw [hwF] at E1 E2 E3 E4
    replace E1 := Lib.hid E1
    replace E2 := Lib.hid E2
    replace E3 := Lib.hid E3
    replace E4 := Lib.hid E4
    replace hwF := Lib.hid hwF
    obtain ⟨⟨y0, y1, y2, y3⟩, v0, v1, v2, v3⟩ := four_cells D1
    obtain ⟨⟨m0, m1, m2, m3, m4⟩, o0, o1, o2, o3, o4⟩ := five_cells D2
    have hlz : b + 2 < wd.heap.size := (Array.getElem?_eq_some_iff.1 D2).1
    have hlz' : b + 1 < wd.heap.size := by omega
    have TA : Gr (fun k => k = b + 1 ∨ k = b + 2) wd (set4 wd (b + 1) (.slice x.a x.ts.length x.c) (.int .i64 (q.i : Int)) (.int .i64 (q.d : Int)) (.int .i64 q.e)) := (TS).trans' (set4_gr wd (b + 1) _ _ _ _) (fun _ _ e => .inl e)
    have TB : Gr (fun k => k = b + 1 ∨ k = b + 2) wd (set5 (set4 wd (b + 1) (.slice x.a x.ts.length x.c) (.int .i64 (q.i : Int)) (.int .i64 (q.d : Int)) (.int .i64 q.e)) (b + 2) (.int .i64 2) (.string T.s) (.int .i64 0) (nl) (nl)) := TA.trans' (set5_gr _ (b + 2) _ _ _ _ _) (fun _ _ e => .inr e)
    refine wpAnyL_one (i := 4) (by kernel_rfl) rfl (fun K hK => ?_)
    go_simp
    refine hK.out _ _ (fun _ => TA) ?_
    clear hK K
    try simp only [Act.put, List.setIfInBounds_toArray, List.set_cons_zero, List.set_cons_succ]
    refine wpAnyL_one (i := 5) (by kernel_rfl) rfl (fun K hK => ?_)
    go_simp
    refine hK.out _ _ (fun _ => TB) ?_
    clear hK K
    try simp only [Act.put, List.setIfInBounds_toArray, List.set_cons_zero, List.set_cons_succ]
    refine wpAnyL_done (by kernel_rfl) ?_ _
    refine NoPanic.normal ?_
    clear TS TA TB
    go_wp2_with fail
    rw [Hr3.out]
    rw [show ((((((((wd.setCell ⟨b + 1, 0, none⟩ (.slice x.a x.ts.length x.c)).setCell ⟨b + 1, 1, none⟩ (.int .i64 (q.i : Int))).setCell ⟨b + 1, 2, none⟩ (.int .i64 (q.d : Int))).setCell ⟨b + 1, 3, none⟩ (.int .i64 q.e)).setCell ⟨b + 1 + 1, 0, none⟩ (.int .i64 2)).setCell ⟨b + 1 + 1, 1, none⟩ (.string T.s)).setCell ⟨b + 1 + 1, 2, none⟩ (.int .i64 0)).setCell ⟨b + 1 + 1, 3, none⟩ (nl)).setCell ⟨b + 1 + 1, 4, none⟩ (nl) = wF from hwF.out]
    clear y0 y1 y2 y3 v0 v1 v2 v3 m0 m1 m2 m3 m4 o0 o1 o2 o3 o4
    have E1' := E1.out
    have E2' : wF.heap[b + 1 + 1]? = some (.cells #[.int .i64 2, .string T.s, .int .i64 0, nl, nl] 30 (0, 0)) := E2.out
    obtain ⟨⟨t0, t1, t2, t3⟩, _⟩ := four_cells E1'
    obtain ⟨⟨s0, s1, s2, s3, s4⟩, _⟩ := five_cells E2'
    refine bodyPost_ret (v := .tuple #[stv x q, trv (2) (T.s) (0) (nl) (nl)]) (by simp [results, Tryz.results84, go_sem, t0, t1, t2, t3, s0, s1, s2, s3, s4]) rfl ⟨2, T.s, 0, none, 0, 0, none, 0, 0, rfl, E3.out, ⟨by have := hqi.out; show q.d = p.d; omega, by have := hqi.out; show p.i ≤ q.i; omega, by have := hqi.out; show q.i ≤ _; omega⟩, E4.out⟩
  | true =>
    replace Hr2 : Hid (r = deeperV (callV x.ts T.s ex) q) := by show r = _; rw [Hr2.out, if_pos q0]
    have hlt := Lib.hid (isV_lt' q0)
    replace KRd : Hid (q.d ≤ 40) := by have := KRd.out; have := hq3.out; show _ ≤ _; omega
    clear q0
    have ga : Gr (fun _ => False) w3 (w3.alloc (stb x q)) := Gr.alloc w3 (stb x q) (fun _ => False)
    have hnew := heap_alloc_new w3 (stb x q)
    have hsink := Lib.hid (rsink_c (KR.out.g0 ga))
    have RA := Lib.hid (KR.out.g0 ga)
    obtain ⟨s, hs⟩ : ∃ s, s = sinkV q := ⟨_, rfl⟩
    rw [← hs] at hsink
    obtain ⟨⟨c0, c1, c2, c3⟩, f0, f1, f2, f3⟩ := four_cells K0.out
    have hlb : b < w3.heap.size := by have := hbw2.out; have := hs3.out; omega
    replace ga := Lib.hid ga
    replace hnew := Lib.hid hnew
    replace hs := Lib.hid hs
    go_wp2_with fail
    refine hsink.out.mono ?_
    rintro e w5 ⟨rfl, g5⟩
    have D0 := Lib.hid (g5.keep (ga.out.keep K0.out (fun e => e)) (fun e => e))
    have D1 := Lib.hid (g5.keep (ga.out.keep K1.out (fun e => e)) (fun e => e))
    have D2 := Lib.hid (g5.keep (ga.out.keep K2.out (fun e => e)) (fun e => e))
    have DT := Lib.hid (g5.keep (ga.out.keep KT.out (fun e => e)) (fun e => e))
    have DW := Lib.hid (g5.keep hnew.out (fun e => e))
    have G5 := Lib.hid ((KG.out.trans ga.out).trans g5)
    have R5 := Lib.hid (RA.out.g0 g5)
    obtain ⟨wb, hwb⟩ : ∃ wb, w3.heap.size = wb := ⟨_, rfl⟩
    have hwb3 : Hid (tb + 1 ≤ wb) := by have := hs3.out; show _ ≤ _; omega
    have hw5 : Hid (wb + 1 ≤ w5.heap.size) := by have := g5.size; have h9 : (w3.alloc (stb x q)).heap.size = w3.heap.size + 1 := by simp
                                                 show _ ≤ _; omega
    rw [hwb] at DW ⊢
    clear c0 c1 c2 c3 f0 f1 f2 f3 hlb ga hnew hsink RA g5 K0 K1 K2 KT KG KR hwb
    obtain ⟨⟨c0, c1, c2, c3⟩, f0, f1, f2, f3⟩ := four_cells D0.out
    obtain ⟨⟨y0, y1, y2, y3⟩, v0, v1, v2, v3⟩ := four_cells D1.out
    obtain ⟨⟨m0, m1, m2, m3, m4⟩, o0, o1, o2, o3, o4⟩ := five_cells D2.out
    have hb9 := hbw2.out
    have hw9 := hw5.out
    have hlz : b + 2 < w5.heap.size := (Array.getElem?_eq_some_iff.1 D2.out).1
    have hlz' : b + 1 < w5.heap.size := by omega
    have hlb : b < w5.heap.size := by omega
    by_cases h40 : q.d = 40
    · have he1 : s.e = 161 ∧ s.d = q.d ∧ s.i = q.i := by
        rw [hs.out, sinkV, if_pos hq3.out.1, if_pos h40, failV, if_pos hq3.out.1]
        exact ⟨rfl, rfl, rfl⟩
      have Hr3 : Hid (r = (tr0, s)) := by
        show r = _
        rw [Hr2.out, deeperV, if_pos h40, hs.out, sinkV, if_pos hq3.out.1, if_pos h40]
      have qn : (s.e != 0) = true := by rw [he1.1]; rfl
      have qn' : (s.e == 0) = false := by rw [he1.1]; rfl
      have hF : Hid (s.d = p.d ∧ p.i ≤ s.i ∧ s.i ≤ x.ts.length) := by
        have h1 := hq3.out
        exact ⟨by omega, by omega, by omega⟩
      obtain ⟨wX, hwX⟩ : ∃ wX, set4 w5 b (.slice x.a x.ts.length x.c) (.int .i64 (s.i : Int)) (.int .i64 (s.d : Int)) (.int .i64 s.e) = wX := ⟨_, rfl⟩
      have gx : Gr (fun k => k = b) w5 wX := by rw [← hwX]; exact set4_gr _ _ _ _ _ _
      have DX1 := gx.keep D1.out (by omega)
      have DX2 := gx.keep D2.out (by omega)
      have GX := G5.out.trans' gx (fun k hk e => by have := hbW.out; omega)
      have h161 := Lib.hid he1.1
      clear he1
      obtain ⟨E1, E2, E3, E4⟩ := end3 (x := x) (q := s) (T := tr0) (k := 0) (s := e0) (n := 0) (bv := nl) (lv := nl) (GX) hbW.out DX1 DX2 (fun he => absurd (he.symm.trans h161.out) (by decide))
      obtain ⟨wF, hwF⟩ : ∃ wF, set5 (set4 wX (b + 1) (.slice x.a x.ts.length x.c) (.int .i64 (s.i : Int)) (.int .i64 (s.d : Int)) (.int .i64 s.e)) (b + 2) (.int .i64 0) (.string e0) (.int .i64 0) (nl) (nl) = wF := ⟨_, rfl⟩
      rw [hwF] at E1 E2 E3 E4
      replace E1 := Lib.hid E1
      replace E2 := Lib.hid E2
      replace E3 := Lib.hid E3
      replace E4 := Lib.hid E4
      replace hwF := Lib.hid hwF
      replace hwX := Lib.hid hwX
      clear DX1 DX2 GX gx
      replace h40 := Lib.hid h40
      go_wp2_with fail
      rw [Hr3.out]
      rw [show (((w5.setCell ⟨b, 0, none⟩ (.slice x.a x.ts.length x.c)).setCell ⟨b, 1, none⟩ (.int .i64 (s.i : Int))).setCell ⟨b, 2, none⟩ (.int .i64 (s.d : Int))).setCell ⟨b, 3, none⟩ (.int .i64 s.e) = wX from hwX.out]
      rw [show ((((((((wX.setCell ⟨b + 1, 0, none⟩ (.slice x.a x.ts.length x.c)).setCell ⟨b + 1, 1, none⟩ (.int .i64 (s.i : Int))).setCell ⟨b + 1, 2, none⟩ (.int .i64 (s.d : Int))).setCell ⟨b + 1, 3, none⟩ (.int .i64 s.e)).setCell ⟨b + 1 + 1, 0, none⟩ (.int .i64 0)).setCell ⟨b + 1 + 1, 1, none⟩ (.string e0)).setCell ⟨b + 1 + 1, 2, none⟩ (.int .i64 0)).setCell ⟨b + 1 + 1, 3, none⟩ (nl)).setCell ⟨b + 1 + 1, 4, none⟩ (nl) = wF from hwF.out]
      clear y0 y1 y2 y3 v0 v1 v2 v3 m0 m1 m2 m3 m4 o0 o1 o2 o3 o4
      have E1' := E1.out
      have E2' : wF.heap[b + 1 + 1]? = some (.cells #[.int .i64 0, .string e0, .int .i64 0, nl, nl] 30 (0, 0)) := E2.out
      obtain ⟨⟨t0, t1, t2, t3⟩, _⟩ := four_cells E1'
      obtain ⟨⟨s0, s1, s2, s3, s4⟩, _⟩ := five_cells E2'
      refine bodyPost_ret (v := .tuple #[stv x s, trv (0) (e0) (0) (nl) (nl)]) (by simp [results, Tryz.results84, go_sem, t0, t1, t2, t3, s0, s1, s2, s3, s4]) rfl ⟨0, e0, 0, none, 0, 0, none, 0, 0, rfl, E3.out, hF.out, E4.out⟩
    · have hsq : Hid (s.e = 0 ∧ s.d = q.d + 1 ∧ s.i = q.i + 1) := by
        have e1 : s = q.deep := by rw [hs.out, sinkV, if_pos hq3.out.1, if_neg h40]
        rw [e1]
        exact ⟨hq3.out.1, rfl, rfl⟩
      have hsd : Hid (s = q.deep) := by
        show s = _
        rw [hs.out, sinkV, if_pos hq3.out.1, if_neg h40]
      have hse := hsq.out.1
      have qn : (s.e != 0) = false := by rw [hse]; rfl
      have qn' : (s.e == 0) = true := by rw [hse]; rfl
      have hd4 : Hid (q.d < 40) := by have := KRd.out; show _ < _; omega
      replace h40 := Lib.hid h40
      replace hse := Lib.hid hse
      have gs : Gr (fun k => k = b) w5 ((((w5.setCell ⟨b, 0, none⟩ (.slice x.a x.ts.length x.c)).setCell ⟨b, 1, none⟩ (.int .i64 (s.i : Int))).setCell ⟨b, 2, none⟩ (.int .i64 (s.d : Int))).setCell ⟨b, 3, none⟩ (.int .i64 s.e)) := set4_gr w5 b (.slice x.a x.ts.length x.c) (.int .i64 (s.i : Int)) (.int .i64 (s.d : Int)) (.int .i64 s.e)
      have S0 : Hid (((((w5.setCell ⟨b, 0, none⟩ (.slice x.a x.ts.length x.c)).setCell ⟨b, 1, none⟩ (.int .i64 (s.i : Int))).setCell ⟨b, 2, none⟩ (.int .i64 (s.d : Int))).setCell ⟨b, 3, none⟩ (.int .i64 s.e)).heap[b]? = some (stb x s)) := set4_heap D0.out (.slice x.a x.ts.length x.c) (.int .i64 (s.i : Int)) (.int .i64 (s.d : Int)) (.int .i64 s.e)
      have hb8 := hwb3.out
      have S1 := Lib.hid (gs.keep D1.out (by omega))
      have S2 := Lib.hid (gs.keep D2.out (by omega))
      have ST := Lib.hid (gs.keep DT.out (by omega))
      have SW := Lib.hid (gs.keep DW.out (by omega))
      have G6 := Lib.hid (G5.out.trans' gs (fun k hk e => by have := hbW.out; omega))
      have R6 := Lib.hid (Rz.to (p' := s) (R5.out.gr gs (fun k hk e => by have := hNb.out; omega)) (by have := hsq.out; have := hq3.out; have := hlt.out; omega) (by have := hsq.out; have := hd4.out; omega))
      have hl6 := Lib.hid gs.size
      have Hr3 : Hid (r = (.mk 11 T.s 0 [] (uptoV x.ts shutR ex s).1, (uptoV x.ts shutR ex s).2.back q.d)) := by
        show r = _
        rw [Hr2.out, deeperV, if_neg h40.out, hsd.out]
        rfl
      have hcall7 := Lib.hid (rlist_c (d + 1) ex (hex (by have := hd4.out; have := hq3.out; have := Hd.out; omega)) shutR R6.out (by have := hsq.out; have := hq3.out; have := Hd.out; omega))
      clear gs D0 D1 D2 DT DW G5 R5 y0 y1 y2 y3 v0 v1 v2 v3 m0 m1 m2 m3 m4 o0 o1 o2 o3 o4 Hr2
      go_wp2_with fail
      generalize (((w5.setCell ⟨b, 0, none⟩ (.slice x.a x.ts.length x.c)).setCell ⟨b, 1, none⟩ (.int .i64 (s.i : Int))).setCell ⟨b, 2, none⟩ (.int .i64 (s.d : Int))).setCell ⟨b, 3, none⟩ (.int .i64 s.e) = w6 at S0 S1 S2 ST SW G6 R6 hcall7 hl6 ⊢
      refine hcall7.out.mono ?_
      rintro e w7 ⟨v, rfl, L7, hi7, g7⟩
      generalize (uptoV x.ts shutR ex s).2 = q3 at Hr3 L7 hi7 ⊢
      generalize (uptoV x.ts shutR ex s).1 = l at Hr3 L7 ⊢
      obtain ⟨a2, n2, c2', rfl⟩ := L7.sv
      have hw6 : wb + 1 ≤ w6.heap.size := by have := hl6.out; omega
      have Hi7 := Lib.hid hi7
      have E1 := g7.keep S1.out (by omega)
      have E2 := g7.keep S2.out (by omega)
      have ET := g7.keep ST.out (by omega)
      have EW := g7.keep SW.out (by omega)
      have GE : Gr (fun _ => False) W w7 := G6.out.trans' g7 (fun k hk e => by have := hbW.out; omega)
      have hw7 : wb + 1 ≤ w7.heap.size := by have := g7.size; omega
      have hRn : q3.e = 0 → Rep (fun z => b + 3 ≤ z) w7 (.mk 11 T.s 0 [] l) (trv 11 T.s 0 nl (.slice a2 n2 c2')) := fun he => (L7.tree he 11 T.s).turn (fun z hz hl => ⟨by have h9 : w6.heap.size ≤ z := hz; omega, rfl⟩)
      have ga := Gr.alloc w7 (stb x q3) (fun _ => False)
      have hnew := heap_alloc_new w7 (stb x q3)
      have X1 := Lib.hid (ga.keep E1 (fun e => e))
      have X2 := Lib.hid (ga.keep E2 (fun e => e))
      have XT := Lib.hid (ga.keep ET (fun e => e))
      have XW := Lib.hid (ga.keep EW (fun e => e))
      have XY := Lib.hid hnew
      have XG := Lib.hid (GE.trans ga)
      have XR : Hid (q3.e = 0 → Rep (fun z => b + 3 ≤ z) (w7.alloc (stb x q3)) (.mk 11 T.s 0 [] l) (trv 11 T.s 0 nl (.slice a2 n2 c2'))) := fun he => (hRn he).turn (fun z hz hl => ⟨hz, ga.block z hl (fun e => e)⟩)
      clear S0 S1 S2 ST SW G6 R6 hcall7 hl6 L7 hi7 g7 E1 E2 ET EW GE hRn ga hnew c0 c1 c2 c3 f0 f1 f2 f3
      go_wp2_with fail
      generalize w7.alloc (stb x q3) = X at X1 X2 XT XW XY XG XR ⊢
      obtain ⟨yb, hyb⟩ : ∃ yb, w7.heap.size = yb := ⟨_, rfl⟩
      have hyb9 : wb + 1 ≤ yb := by omega
      rw [hyb] at XY ⊢
      have D1 : X.drew.heap[b + 1]? = some zs := X1.out
      have D2 : X.drew.heap[b + 2]? = some zt := X2.out
      have DT : X.drew.heap[tb]? = some (tkcells T (.slice va T.b.length vc)) := XT.out
      have DW : X.drew.heap[wb]? = some (stb x q) := XW.out
      have DY : X.drew.heap[yb]? = some (stb x q3) := XY.out
      have Gd : Hid (Gr (fun _ => False) W X.drew) := XG.out.trans (Gr.drew X _)
      have BR : Hid (q3.e = 0 → Rep (fun z => b + 3 ≤ z) X.drew (.mk 11 T.s 0 [] l) (trv 11 T.s 0 nl (.slice a2 n2 c2'))) := fun he => (XR.out he).turn (fun z hz hl => ⟨hz, rfl⟩)
      obtain ⟨qz, hqz⟩ : ∃ qz, qz = q3.back q.d := ⟨_, rfl⟩
      have hrise : ∀ w, Calls Tryz.prog 53 #[stv x q3, stv x q] w fun e w' => e = .returned (stv x qz) ∧ Gr (fun _ => False) w w' := fun w => by rw [hqz]; exact rrise_c w q3 q
      have hze : Hid (qz.e = q3.e) := by show _ = _; rw [hqz]; rfl
      have hqF : Hid (qz.d = p.d ∧ p.i ≤ qz.i ∧ qz.i ≤ x.ts.length) := by
        have h6 := Hi7.out
        have h7 := hsq.out
        have h9 := hq3.out
        rw [hqz]
        exact ⟨h9.2.1, by show p.i ≤ q3.i; have h1 : s.i ≤ q3.i := h6.2.1; omega, h6.2.2⟩
      rw [← hqz] at Hr3
      clear hqz X1 X2 XT XW XY XG XR hyb
      have TS : Gr (fun k => k = b + 1 ∨ k = b + 2) X.drew X.drew := Gr.refl _ _
      refine wp_region_L (L := 100) (T := fun w => Gr (fun k => k = b + 1 ∨ k = b + 2) X.drew w) (by kernel_rfl) ?_
      generalize X.drew = wd at TS D1 D2 DT DW DY Gd BR ⊢
      obtain ⟨⟨d0, d1, d2, d3⟩, _⟩ := four_cells DY
      obtain ⟨⟨u0, u1, u2, u3⟩, _⟩ := four_cells DW
      obtain ⟨⟨k0, k1, k2, k3, k4⟩, _⟩ := five_cells DT
      refine wpAnyN_at (i := 0) (v := (.agg #[.slice x.a x.ts.length x.c, .int .i64 (q3.i : Int), .int .i64 (q3.d : Int), .int .i64 q3.e])) (some 72) rfl rfl (by kernel_rfl) (by kernel_rfl) (by kernel_rfl) (by kernel_rfl) (fun _ _ _ h => h) (Or.inl ⟨by rfl, ?_⟩) TS ?_
      · intro w hSw
        have qq0 := cell_gr d0 hSw (by show ¬ (_ ∨ _); omega)
        have qq1 := cell_gr d1 hSw (by show ¬ (_ ∨ _); omega)
        have qq2 := cell_gr d2 hSw (by show ¬ (_ ∨ _); omega)
        have qq3 := cell_gr d3 hSw (by show ¬ (_ ∨ _); omega)
        have qz := World.block_lt_of_cell? _ _ qq0
        go_simp
        try (intro h; exfalso; omega)
      try simp only [Act.put, List.setIfInBounds_toArray, List.set_cons_zero, List.set_cons_succ]
      refine wpAnyN_at (i := 1) (v := (.agg #[.slice x.a x.ts.length x.c, .int .i64 (q.i : Int), .int .i64 (q.d : Int), .int .i64 q.e])) (some 73) rfl rfl (by kernel_rfl) (by kernel_rfl) (by kernel_rfl) (by kernel_rfl) (fun _ _ _ h => h) (Or.inl ⟨by rfl, ?_⟩) TS ?_
      · intro w hSw
        have qq0 := cell_gr u0 hSw (by show ¬ (_ ∨ _); omega)
        have qq1 := cell_gr u1 hSw (by show ¬ (_ ∨ _); omega)
        have qq2 := cell_gr u2 hSw (by show ¬ (_ ∨ _); omega)
        have qq3 := cell_gr u3 hSw (by show ¬ (_ ∨ _); omega)
        have qz := World.block_lt_of_cell? _ _ qq0
        go_simp
        try (intro h; exfalso; omega)
      try simp only [Act.put, List.setIfInBounds_toArray, List.set_cons_zero, List.set_cons_succ]
      refine wpAnyN_at (i := 3) (v := (ptr tb 1)) (some 75) rfl rfl (by kernel_rfl) (by kernel_rfl) (by kernel_rfl) (by kernel_rfl) (fun _ _ _ h => h) (Or.inl ⟨by rfl, ?_⟩) TS ?_
      · intro w hSw
        go_simp
        try (intro h; exfalso; omega)
      try simp only [Act.put, List.setIfInBounds_toArray, List.set_cons_zero, List.set_cons_succ]
      refine wpAnyN_at (i := 4) (v := (.string T.s)) (some 76) rfl rfl (by kernel_rfl) (by kernel_rfl) (by kernel_rfl) (by kernel_rfl) (fun _ _ _ h => h) (Or.inl ⟨by rfl, ?_⟩) TS ?_
      · intro w hSw
        have qq0 := cell_gr k1 hSw (by show ¬ (_ ∨ _); omega)
        have qz := World.block_lt_of_cell? _ _ qq0
        go_simp
        try (intro h; exfalso; omega)
      try simp only [Act.put, List.setIfInBounds_toArray, List.set_cons_zero, List.set_cons_succ]
      refine wpAnyN_at (i := 5) (v := (.slice a2 n2 c2')) (some 77) rfl rfl (by kernel_rfl) (by kernel_rfl) (by kernel_rfl) (by kernel_rfl) (fun _ _ _ h => h) (Or.inl ⟨by rfl, ?_⟩) TS ?_
      · intro w hSw
        go_simp
        try (intro h; exfalso; omega)
      try simp only [Act.put, List.setIfInBounds_toArray, List.set_cons_zero, List.set_cons_succ]
      refine wpAnyN_at (i := 6) (v := (.agg #[.int .i64 11, .string T.s, .int .i64 0, nl, .slice a2 n2 c2'])) (some 78) rfl rfl (by kernel_rfl) (by kernel_rfl) (by kernel_rfl) (by kernel_rfl) (fun _ _ _ h => h) (Or.inl ⟨by rfl, ?_⟩) TS ?_
      · intro w hSw
        go_simp
        try (intro h; exfalso; omega)
      try simp only [Act.put, List.setIfInBounds_toArray, List.set_cons_zero, List.set_cons_succ]
      refine wpAnyL_one (i := 2) (by kernel_rfl) rfl (fun K hK => ?_)
      go_simp
      refine (hrise wd).mono ?_
      rintro e w9 ⟨rfl, g9⟩
      refine hK.out _ _ (fun _ => g9.any _) ?_
      clear hK K
      try simp only [Act.put, List.setIfInBounds_toArray, List.set_cons_zero, List.set_cons_succ]
      have F1 := g9.keep D1 (fun e => e)
      have F2 := g9.keep D2 (fun e => e)
      obtain ⟨E1, E2, E3, E4⟩ := end3 (x := x) (q := qz) (T := (.mk 11 T.s 0 [] l)) (k := 11) (s := T.s) (n := 0) (bv := nl) (lv := .slice a2 n2 c2') (Gd.out.trans g9) hbW.out F1 F2 (fun he => (BR.out (hze.out.symm.trans he)).turn (fun z hz hl => ⟨hz, g9.block z hl (fun e => e)⟩))
      obtain ⟨wF, hwF⟩ : ∃ wF, set5 (set4 w9 (b + 1) (.slice x.a x.ts.length x.c) (.int .i64 (qz.i : Int)) (.int .i64 (qz.d : Int)) (.int .i64 qz.e)) (b + 2) (.int .i64 11) (.string T.s) (.int .i64 0) (nl) (.slice a2 n2 c2') = wF := ⟨_, rfl⟩
      rw [hwF] at E1 E2 E3 E4
      replace E1 := Lib.hid E1
      replace E2 := Lib.hid E2
      replace E3 := Lib.hid E3
      replace E4 := Lib.hid E4
      replace hwF := Lib.hid hwF
      obtain ⟨⟨y0, y1, y2, y3⟩, v0, v1, v2, v3⟩ := four_cells F1
      obtain ⟨⟨m0, m1, m2, m3, m4⟩, o0, o1, o2, o3, o4⟩ := five_cells F2
      have hlz : b + 2 < w9.heap.size := (Array.getElem?_eq_some_iff.1 F2).1
      have hlz' : b + 1 < w9.heap.size := by omega
      have TA : Gr (fun k => k = b + 1 ∨ k = b + 2) wd (set4 w9 (b + 1) (.slice x.a x.ts.length x.c) (.int .i64 (qz.i : Int)) (.int .i64 (qz.d : Int)) (.int .i64 qz.e)) := (g9.any _).trans' (set4_gr w9 (b + 1) _ _ _ _) (fun _ _ e => .inl e)
      have TB : Gr (fun k => k = b + 1 ∨ k = b + 2) wd (set5 (set4 w9 (b + 1) (.slice x.a x.ts.length x.c) (.int .i64 (qz.i : Int)) (.int .i64 (qz.d : Int)) (.int .i64 qz.e)) (b + 2) (.int .i64 11) (.string T.s) (.int .i64 0) (nl) (.slice a2 n2 c2')) := TA.trans' (set5_gr _ (b + 2) _ _ _ _ _) (fun _ _ e => .inr e)
      refine wpAnyL_one (i := 7) (by kernel_rfl) rfl (fun K hK => ?_)
      go_simp
      refine hK.out _ _ (fun _ => TA) ?_
      clear hK K
      try simp only [Act.put, List.setIfInBounds_toArray, List.set_cons_zero, List.set_cons_succ]
      refine wpAnyL_one (i := 8) (by kernel_rfl) rfl (fun K hK => ?_)
      go_simp
      refine hK.out _ _ (fun _ => TB) ?_
      clear hK K
      try simp only [Act.put, List.setIfInBounds_toArray, List.set_cons_zero, List.set_cons_succ]
      refine wpAnyL_done (by kernel_rfl) ?_ _
      refine NoPanic.normal ?_
      clear TS TA TB
      go_wp2_with fail
      rw [Hr3.out]
      rw [show ((((((((w9.setCell ⟨b + 1, 0, none⟩ (.slice x.a x.ts.length x.c)).setCell ⟨b + 1, 1, none⟩ (.int .i64 (qz.i : Int))).setCell ⟨b + 1, 2, none⟩ (.int .i64 (qz.d : Int))).setCell ⟨b + 1, 3, none⟩ (.int .i64 qz.e)).setCell ⟨b + 1 + 1, 0, none⟩ (.int .i64 11)).setCell ⟨b + 1 + 1, 1, none⟩ (.string T.s)).setCell ⟨b + 1 + 1, 2, none⟩ (.int .i64 0)).setCell ⟨b + 1 + 1, 3, none⟩ (nl)).setCell ⟨b + 1 + 1, 4, none⟩ (.slice a2 n2 c2') = wF from hwF.out]
      clear y0 y1 y2 y3 v0 v1 v2 v3 m0 m1 m2 m3 m4 o0 o1 o2 o3 o4
      have E1' := E1.out
      have E2' : wF.heap[b + 1 + 1]? = some (.cells #[.int .i64 11, .string T.s, .int .i64 0, nl, .slice a2 n2 c2'] 30 (0, 0)) := E2.out
      obtain ⟨⟨t0, t1, t2, t3⟩, _⟩ := four_cells E1'
      obtain ⟨⟨s0, s1, s2, s3, s4⟩, _⟩ := five_cells E2'
      refine bodyPost_ret (v := .tuple #[stv x qz, trv (11) (T.s) (0) (nl) (.slice a2 n2 c2')]) (by simp [results, Tryz.results84, go_sem, t0, t1, t2, t3, s0, s1, s2, s3, s4]) rfl ⟨11, T.s, 0, none, 0, 0, a2, n2, c2', rfl, E3.out, hqF.out, E4.out⟩
end Go.Proofs.YtggkjkkbkpnkiaaGreatDoor
