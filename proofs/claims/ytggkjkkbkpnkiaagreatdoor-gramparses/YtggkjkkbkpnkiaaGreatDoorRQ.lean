/-
  The reference's prim: what opens.
-/
import Derived.Test.YtggkjkkbkpnkiaaGreatDoorRP
import Derived.Test.YtggkjkkbkpnkiaaGreatDoorRM
import Derived.Test.YtggkjkkbkpnkiaaGreatDoorRN
set_option linter.unusedVariables false
set_option linter.unusedSimpArgs false
namespace Go.Proofs.YtggkjkkbkpnkiaaGreatDoor
open Go.RowKit Go.Maps
variable {x : Kx} {W W' : World} {p p' : Ps}
def innV (ts : List Tn) (ex un : Rule) : Nat → Rule
  | 0 => bracketV ts ex
  | 1 => tupleV ts ex
  | 2 => listV ts ex
  | 3 => choiceV ts ex un
  | _ => recvV ts ex un
def InOk (x : Kx) (d : Nat) (ex un : Rule) : Prop := ∀ (i : Nat), i < 5 → ∀ (W : World) (p : Ps), Rz x W p → p.d = d → Calls Tryz.prog 92 #[stv x p, .int .i64 (i : Int)] W fun e w' => EndX x W p e w' (innV x.ts ex un i p)
theorem rinner_c (d : Nat) (ex un : Rule) (hex : ROk x 39 d ex) (hun : ROk x 74 d un) (hse : Stuck ex) (hsu : Stuck un) : InOk x d ex un := fun i hi W p h hd => by
  match i, hi with
  | 0, _ => exact rinner0 d ex hex h hd
  | 1, _ => exact rinner1 d ex hex h hd
  | 2, _ => exact rinner2 d ex hex h hd
  | 3, _ => exact rinner3 d ex un hex hun hse hsu h hd
  | 4, _ => exact rinner4 d ex un hex hun hse hsu h hd
def nOpen : List (ByteArray × Nat) := [(opn, 0), (opn5, 1), (opn6, 2), (wCase, 3), (wRecv, 4)]
def nestR (ts : List Tn) (ex un : Rule) (p : Ps) : Option (ByteArray × Nat) → Tr × Ps
  | some y => deeperV (innV ts ex un y.2) p
  | none => (tr0, failV 160 p)
theorem nest_find (ts : List Tn) (ex un : Rule) (p : Ps) : nestV ts ex un p = nestR ts ex un p ((nOpen.drop 0).find? fun y => isV ts p y.1) := by
  unfold nestV
  show _ = nestR ts ex un p (nOpen.find? fun y => isV ts p y.1)
  unfold nOpen
  simp only [List.find?_cons]
  cases isV ts p opn with
  | true => rfl
  | false =>
    cases isV ts p opn5 with
    | true => rfl
    | false =>
      cases isV ts p opn6 with
      | true => rfl
      | false =>
        cases isV ts p wCase with
        | true => rfl
        | false =>
          cases isV ts p wRecv with
          | true => rfl
          | false => rfl
abbrev nS : Array Value := #[.string opn, .string opn5, .string opn6, .string wCase, .string wRecv]
theorem n_at {w : World} {a : Nat} (hS : w.heap[a]? = some (.cells nS 125 (0, 0))) (i : Nat) (hi : i < 5) : ∃ s, nOpen[i]? = some (s, i) ∧ w.cell? ⟨a, i, none⟩ = some (.string s) := by
  simp only [World.cell?, hS]
  match i, hi with
  | 0, _ => exact ⟨_, rfl, rfl⟩
  | 1, _ => exact ⟨_, rfl, rfl⟩
  | 2, _ => exact ⟨_, rfl, rfl⟩
  | 3, _ => exact ⟨_, rfl, rfl⟩
  | 4, _ => exact ⟨_, rfl, rfl⟩
set_option maxRecDepth 100000 in
set_option maxHeartbeats 1600000 in
theorem rprim_nest (d : Nat) (ex un : Rule) (hin : d < 40 → InOk x (d + 1) ex un) (h : Rz x W p) (hd : p.d = d) (hk : (pkT x.ts p).k < 1 ∨ 4 < (pkT x.ts p).k) : Calls Tryz.prog 84 #[stv x p] W fun e w' => EndX x W p e w' (nestV x.ts ex un p) := by
  obtain ⟨g0, b0, b1, b2, hz0⟩ := open3 (x := x) W p
  obtain ⟨b, hb⟩ : ∃ b, W.heap.size = b := ⟨_, rfl⟩
  have Hd := Lib.hid hd
  have hbW := Lib.hid hb
  have hNb : Hid (x.N ≤ b) := by have := h.hN; show _ ≤ _; omega
  have R0 := Lib.hid (h.g0 g0)
  have hkind := rkind_c (h.g0 g0)
  obtain ⟨r, hr⟩ : ∃ r : Tr × Ps, r = nestV x.ts ex un p := ⟨_, rfl⟩
  rw [← hr]
  have Hr : Hid (r = nestR x.ts ex un p ((nOpen.drop 0).find? fun y => isV x.ts p y.1)) := hr.trans (nest_find x.ts ex un p)
  generalize (pkT x.ts p).k = k at hkind hk
  have Hi0 := Lib.hid h.hi
  have KRd := Lib.hid h.hd
  clear hd h hr
  go_enter Tryz.func84, Tryz.ntmps84
  go_wp2_with fail
  generalize ((W.alloc _).alloc _).alloc _ = W1 at g0 b0 b1 b2 hz0 R0 hkind ⊢
  rw [hb] at b0 b1 b2 hz0
  refine hkind.mono ?_
  rintro e w2 ⟨rfl, g2⟩
  have ga : Gr (fun _ => False) w2 (w2.alloc (.cells nS 125)) := Gr.alloc w2 (.cells nS 125) (fun _ => False)
  have B0 := Lib.hid (ga.keep (g2.keep b0 (fun e => e)) (fun e => e))
  have B1 := Lib.hid (ga.keep (g2.keep b1 (fun e => e)) (fun e => e))
  have B2 := Lib.hid (ga.keep (g2.keep b2 (fun e => e)) (fun e => e))
  have BO := Lib.hid (heap_alloc_new w2 (.cells nS 125))
  have BG := Lib.hid ((g0.trans g2).trans ga)
  have BR := Lib.hid ((R0.out.g0 g2).g0 ga)
  have hbw2 : Hid (b + 3 ≤ w2.heap.size) := by have := g2.size; show _ ≤ _; omega
  clear hkind b0 b1 b2 g0 g2 R0 ga
  have hk' : decide (1 ≤ k) = false ∨ (decide (1 ≤ k) = true ∧ decide (k ≤ 4) = false) := by
    rcases hk with h | h
    · left; simp; omega
    · right; exact ⟨by simp; omega, by simp; omega⟩
  replace hk := Lib.hid hk
  rcases hk' with hk1 | ⟨hk1, hk2⟩
  · go_wp2_with fail
    generalize w2.alloc _ = W2 at B0 B1 B2 BO BG BR ⊢
    obtain ⟨tb, htb⟩ : ∃ tb, w2.heap.size = tb := ⟨_, rfl⟩
    rw [htb] at BO hbw2 ⊢
    replace htb := Lib.hid htb
    replace hb := Lib.hid hb
    go_loopw [10] (fun u wr => ∃ i : Nat, i ≤ 5 ∧ u = .int .i64 (i : Int) ∧ Hid (r = nestR x.ts ex un p ((nOpen.drop i).find? fun y => isV x.ts p y.1)) ∧ Hid (Gr (fun _ => False) W2 wr)) (fun u _ => 5 - (intOf u).toNat)
    case atStart => exact ⟨0, by omega, rfl, Hr, Gr.refl _ _⟩
    case round =>
      obtain ⟨i, hi, rfl, hR, hG⟩ := hrel
      by_cases hlti : i < 5
      · have hdi : decide ((i : Int) < 5) = true := by simp; omega
        have hiI : (i : Int) < 5 := by omega
        obtain ⟨s0, hjs, k0'⟩ := n_at (hG.out.keep BO.out (fun e => e)) i hlti
        have C0 := hG.out.keep B0.out (fun e => e)
        obtain ⟨⟨c0', c1', c2', c3'⟩, _⟩ := four_cells C0
        have hR2 := Lib.hid (hR.out.trans (congrArg (nestR x.ts ex un p) (find_drop (fun y => isV x.ts p y.1) hjs)))
        have hbl : b < wr.heap.size := (Array.getElem?_eq_some_iff.1 C0).1
        have his := ris_c ((BR.out.g0 hG.out).g0 (Gr.drew wr _)) s0
        have k0 : wr.drew.cell? ⟨tb, i, none⟩ = some (.string s0) := k0'
        have c0 : wr.drew.cell? ⟨b, 0, none⟩ = _ := c0'
        have c1 : wr.drew.cell? ⟨b, 1, none⟩ = _ := c1'
        have c2 : wr.drew.cell? ⟨b, 2, none⟩ = _ := c2'
        have c3 : wr.drew.cell? ⟨b, 3, none⟩ = _ := c3'
        have GD := Lib.hid (hG.out.trans (Gr.drew wr _))
        clear c0' c1' c2' c3' k0' hR hjs C0
        cases q0 : isV x.ts p s0 with
        | false =>
          have hr3 : Hid (r = nestR x.ts ex un p ((nOpen.drop (i + 1)).find? fun y => isV x.ts p y.1)) := by
            show r = _
            rw [hR2.out, if_neg (by simp [q0])]
          rw [q0] at his
          clear hR2 q0
          go_wp2_with fail
          have TS : Gr (fun _ => False) wr.drew wr.drew := Gr.refl _ _
          refine wp_region_L (L := 100) (T := fun w => Gr (fun _ => False) wr.drew w) (by kernel_rfl) ?_
          refine wpAnyN_at (i := 0) (v := (.agg #[.slice x.a x.ts.length x.c, .int .i64 (p.i : Int), .int .i64 (p.d : Int), .int .i64 p.e])) (some 84) rfl rfl (by kernel_rfl) (by kernel_rfl) (by kernel_rfl) (by kernel_rfl) (fun _ _ _ h => h) (Or.inl ⟨by rfl, ?_⟩) TS ?_
          · intro w hSw
            have qq0 := cell_gr c0 hSw (fun e => e)
            have qq1 := cell_gr c1 hSw (fun e => e)
            have qq2 := cell_gr c2 hSw (fun e => e)
            have qq3 := cell_gr c3 hSw (fun e => e)
            have qz := World.block_lt_of_cell? _ _ qq0
            go_simp
            try (intro h; exfalso; omega)
          try simp only [Act.put, List.setIfInBounds_toArray, List.set_cons_zero, List.set_cons_succ]
          refine wpAnyN_at (i := 1) (v := .int .i64 (i : Int)) (some 85) rfl rfl (by kernel_rfl) (by kernel_rfl) (by kernel_rfl) (by kernel_rfl) (fun _ _ _ h => h) (Or.inl ⟨by rfl, ?_⟩) TS ?_
          · intro w hSw
            go_simp
            try (intro h; exfalso; omega)
          try simp only [Act.put, List.setIfInBounds_toArray, List.set_cons_zero, List.set_cons_succ]
          refine wpAnyN_at (i := 2) (v := ptr tb i) (some 86) rfl rfl (by kernel_rfl) (by kernel_rfl) (by kernel_rfl) (by kernel_rfl) (fun _ _ _ h => h) (Or.inl ⟨by rfl, ?_⟩) TS ?_
          · intro w hSw
            go_simp
            try (intro h; exfalso; omega)
          try simp only [Act.put, List.setIfInBounds_toArray, List.set_cons_zero, List.set_cons_succ]
          refine wpAnyN_at (i := 3) (v := .string s0) (some 87) rfl rfl (by kernel_rfl) (by kernel_rfl) (by kernel_rfl) (by kernel_rfl) (fun _ _ _ h => h) (Or.inl ⟨by rfl, ?_⟩) TS ?_
          · intro w hSw
            have qq0 := cell_gr k0 hSw (fun e => e)
            have qz := World.block_lt_of_cell? _ _ qq0
            go_simp
            try (intro h; exfalso; omega)
          try simp only [Act.put, List.setIfInBounds_toArray, List.set_cons_zero, List.set_cons_succ]
          refine wpAnyL_one (i := 4) (by kernel_rfl) rfl (fun K hK => ?_)
          go_simp
          refine his.mono ?_
          rintro e w3 ⟨rfl, g3⟩
          have TS : Gr (fun _ => False) wr.drew w3 := g3
          refine hK.out _ _ (fun _ => TS) ?_
          clear hK K
          try simp only [Act.put, List.setIfInBounds_toArray, List.set_cons_zero, List.set_cons_succ]
          refine wpAnyL_done (by kernel_rfl) ?_ _
          refine NoPanic.normal ?_
          go_wp2_with fail
          exact ⟨⟨i + 1, hlti, by go_num, hr3, GD.out.trans TS⟩, by simp [intOf]; omega⟩
        | true =>
          have Hr2 : Hid (r = deeperV (innV x.ts ex un i) p) := by
            show r = _
            rw [hR2.out, if_pos (by simp [q0])]
            rfl
          have hlt := Lib.hid (isV_lt' q0)
          rw [q0] at his
          clear hR2 q0
          go_wp2_with fail
          have TS : Gr (fun _ => False) wr.drew wr.drew := Gr.refl _ _
          refine wp_region_L (L := 100) (T := fun w => Gr (fun _ => False) wr.drew w) (by kernel_rfl) ?_
          refine wpAnyN_at (i := 0) (v := (.agg #[.slice x.a x.ts.length x.c, .int .i64 (p.i : Int), .int .i64 (p.d : Int), .int .i64 p.e])) (some 84) rfl rfl (by kernel_rfl) (by kernel_rfl) (by kernel_rfl) (by kernel_rfl) (fun _ _ _ h => h) (Or.inl ⟨by rfl, ?_⟩) TS ?_
          · intro w hSw
            have qq0 := cell_gr c0 hSw (fun e => e)
            have qq1 := cell_gr c1 hSw (fun e => e)
            have qq2 := cell_gr c2 hSw (fun e => e)
            have qq3 := cell_gr c3 hSw (fun e => e)
            have qz := World.block_lt_of_cell? _ _ qq0
            go_simp
            try (intro h; exfalso; omega)
          try simp only [Act.put, List.setIfInBounds_toArray, List.set_cons_zero, List.set_cons_succ]
          refine wpAnyN_at (i := 1) (v := .int .i64 (i : Int)) (some 85) rfl rfl (by kernel_rfl) (by kernel_rfl) (by kernel_rfl) (by kernel_rfl) (fun _ _ _ h => h) (Or.inl ⟨by rfl, ?_⟩) TS ?_
          · intro w hSw
            go_simp
            try (intro h; exfalso; omega)
          try simp only [Act.put, List.setIfInBounds_toArray, List.set_cons_zero, List.set_cons_succ]
          refine wpAnyN_at (i := 2) (v := ptr tb i) (some 86) rfl rfl (by kernel_rfl) (by kernel_rfl) (by kernel_rfl) (by kernel_rfl) (fun _ _ _ h => h) (Or.inl ⟨by rfl, ?_⟩) TS ?_
          · intro w hSw
            go_simp
            try (intro h; exfalso; omega)
          try simp only [Act.put, List.setIfInBounds_toArray, List.set_cons_zero, List.set_cons_succ]
          refine wpAnyN_at (i := 3) (v := .string s0) (some 87) rfl rfl (by kernel_rfl) (by kernel_rfl) (by kernel_rfl) (by kernel_rfl) (fun _ _ _ h => h) (Or.inl ⟨by rfl, ?_⟩) TS ?_
          · intro w hSw
            have qq0 := cell_gr k0 hSw (fun e => e)
            have qz := World.block_lt_of_cell? _ _ qq0
            go_simp
            try (intro h; exfalso; omega)
          try simp only [Act.put, List.setIfInBounds_toArray, List.set_cons_zero, List.set_cons_succ]
          refine wpAnyL_one (i := 4) (by kernel_rfl) rfl (fun K hK => ?_)
          go_simp
          refine his.mono ?_
          rintro e w3 ⟨rfl, g3⟩
          have TS : Gr (fun _ => False) wr.drew w3 := g3
          refine hK.out _ _ (fun _ => TS) ?_
          clear hK K
          try simp only [Act.put, List.setIfInBounds_toArray, List.set_cons_zero, List.set_cons_succ]
          refine wpAnyL_done (by kernel_rfl) ?_ _
          refine NoPanic.normal ?_
          have K0 := Lib.hid (TS.keep (GD.out.keep B0.out (fun e => e)) (fun e => e))
          have K1 := Lib.hid (TS.keep (GD.out.keep B1.out (fun e => e)) (fun e => e))
          have K2 := Lib.hid (TS.keep (GD.out.keep B2.out (fun e => e)) (fun e => e))
          have KT := Lib.hid (TS.keep (GD.out.keep BO.out (fun e => e)) (fun e => e))
          have KG := Lib.hid ((BG.out.trans GD.out).trans TS)
          have KR := Lib.hid ((BR.out.g0 GD.out).g0 TS)
          have hs3 : Hid (tb + 1 ≤ w3.heap.size) := (Array.getElem?_eq_some_iff.1 KT.out).1
          clear c0 c1 c2 c3 k0 TS his g3 hbl hG GD
          obtain ⟨q, hq⟩ : ∃ q, p = q := ⟨_, rfl⟩
          have hq3 : Hid (q.e = 0 ∧ q.d = p.d ∧ q.i = p.i ∧ q.i ≤ x.ts.length) := by rw [← hq]; exact ⟨hlt.out.1, rfl, rfl, Hi0.out⟩
          rw [hq] at K0 KR
          replace Hr2 : Hid (r = deeperV (innV x.ts ex un i) q) := by show r = _; rw [← hq]; exact Hr2.out
          replace hlt : Hid (q.e = 0 ∧ q.i < x.ts.length) := by rw [← hq]; exact hlt.out
          have KRd' : Hid (q.d ≤ 40) := by rw [← hq]; exact KRd.out
          have KRd := KRd'
          replace hq := Lib.hid hq
          have hi5 := Lib.hid hlti
          clear B0 B1 B2 BO BG BR hlti hdi hiI hi
          have ga : Gr (fun _ => False) w3 (w3.alloc (stb x q)) := Gr.alloc w3 (stb x q) (fun _ => False)
          have hnew := heap_alloc_new w3 (stb x q)
          have hsink := Lib.hid (rsink_c (KR.out.g0 ga))
          have RA := Lib.hid (KR.out.g0 ga)
          obtain ⟨s, hs⟩ : ∃ s, s = sinkV q := ⟨_, rfl⟩
          rw [← hs] at hsink
          obtain ⟨⟨c0, c1, c2, c3⟩, f0, f1, f2, f3⟩ := four_cells K0.out
          have hlb : b < w3.heap.size := by have := hbw2.out; have := hs3.out; omega
          replace ga := Lib.hid ga
          replace hnew := Lib.hid hnew
          replace hs := Lib.hid hs
          go_wp2_with fail
          refine hsink.out.mono ?_
          rintro e w5 ⟨rfl, g5⟩
          have D0 := Lib.hid (g5.keep (ga.out.keep K0.out (fun e => e)) (fun e => e))
          have D1 := Lib.hid (g5.keep (ga.out.keep K1.out (fun e => e)) (fun e => e))
          have D2 := Lib.hid (g5.keep (ga.out.keep K2.out (fun e => e)) (fun e => e))
          have DT := Lib.hid (g5.keep (ga.out.keep KT.out (fun e => e)) (fun e => e))
          have DW := Lib.hid (g5.keep hnew.out (fun e => e))
          have G5 := Lib.hid ((KG.out.trans ga.out).trans g5)
          have R5 := Lib.hid (RA.out.g0 g5)
          obtain ⟨wb, hwb⟩ : ∃ wb, w3.heap.size = wb := ⟨_, rfl⟩
          have hwb3 : Hid (tb + 1 ≤ wb) := by have := hs3.out; show _ ≤ _; omega
          have hw5 : Hid (wb + 1 ≤ w5.heap.size) := by have := g5.size; have h9 : (w3.alloc (stb x q)).heap.size = w3.heap.size + 1 := by simp
                                                       show _ ≤ _; omega
          rw [hwb] at DW ⊢
          clear c0 c1 c2 c3 f0 f1 f2 f3 hlb ga hnew hsink RA g5 K0 K1 K2 KT KG KR hwb
          obtain ⟨⟨c0, c1, c2, c3⟩, f0, f1, f2, f3⟩ := four_cells D0.out
          obtain ⟨⟨y0, y1, y2, y3⟩, v0, v1, v2, v3⟩ := four_cells D1.out
          obtain ⟨⟨m0, m1, m2, m3, m4⟩, o0, o1, o2, o3, o4⟩ := five_cells D2.out
          have hb9 := hbw2.out
          have hw9 := hw5.out
          have hlz : b + 2 < w5.heap.size := (Array.getElem?_eq_some_iff.1 D2.out).1
          have hlz' : b + 1 < w5.heap.size := by omega
          have hlb : b < w5.heap.size := by omega
          by_cases h40 : q.d = 40
          · have he1 : s.e = 161 ∧ s.d = q.d ∧ s.i = q.i := by
              rw [hs.out, sinkV, if_pos hq3.out.1, if_pos h40, failV, if_pos hq3.out.1]
              exact ⟨rfl, rfl, rfl⟩
            have Hr3 : Hid (r = (tr0, s)) := by
              show r = _
              rw [Hr2.out, deeperV, if_pos h40, hs.out, sinkV, if_pos hq3.out.1, if_pos h40]
            have qn : (s.e != 0) = true := by rw [he1.1]; rfl
            have qn' : (s.e == 0) = false := by rw [he1.1]; rfl
            have hF : Hid (s.d = p.d ∧ p.i ≤ s.i ∧ s.i ≤ x.ts.length) := by
              have h1 := hq3.out
              exact ⟨by omega, by omega, by omega⟩
            obtain ⟨wX, hwX⟩ : ∃ wX, set4 w5 b (.slice x.a x.ts.length x.c) (.int .i64 (s.i : Int)) (.int .i64 (s.d : Int)) (.int .i64 s.e) = wX := ⟨_, rfl⟩
            have gx : Gr (fun k => k = b) w5 wX := by rw [← hwX]; exact set4_gr _ _ _ _ _ _
            have DX1 := gx.keep D1.out (by omega)
            have DX2 := gx.keep D2.out (by omega)
            have GX := G5.out.trans' gx (fun k hk e => by have := hbW.out; omega)
            have h161 := Lib.hid he1.1
            clear he1
            obtain ⟨E1, E2, E3, E4⟩ := end3 (x := x) (q := s) (T := tr0) (k := 0) (s := e0) (n := 0) (bv := nl) (lv := nl) (GX) hbW.out DX1 DX2 (fun he => absurd (he.symm.trans h161.out) (by decide))
            obtain ⟨wF, hwF⟩ : ∃ wF, set5 (set4 wX (b + 1) (.slice x.a x.ts.length x.c) (.int .i64 (s.i : Int)) (.int .i64 (s.d : Int)) (.int .i64 s.e)) (b + 2) (.int .i64 0) (.string e0) (.int .i64 0) (nl) (nl) = wF := ⟨_, rfl⟩
            rw [hwF] at E1 E2 E3 E4
            replace E1 := Lib.hid E1
            replace E2 := Lib.hid E2
            replace E3 := Lib.hid E3
            replace E4 := Lib.hid E4
            replace hwF := Lib.hid hwF
            replace hwX := Lib.hid hwX
            clear DX1 DX2 GX gx
            replace h40 := Lib.hid h40
            go_wp2_with fail
            rw [Hr3.out]
            rw [show (((w5.setCell ⟨b, 0, none⟩ (.slice x.a x.ts.length x.c)).setCell ⟨b, 1, none⟩ (.int .i64 (s.i : Int))).setCell ⟨b, 2, none⟩ (.int .i64 (s.d : Int))).setCell ⟨b, 3, none⟩ (.int .i64 s.e) = wX from hwX.out]
            rw [show ((((((((wX.setCell ⟨b + 1, 0, none⟩ (.slice x.a x.ts.length x.c)).setCell ⟨b + 1, 1, none⟩ (.int .i64 (s.i : Int))).setCell ⟨b + 1, 2, none⟩ (.int .i64 (s.d : Int))).setCell ⟨b + 1, 3, none⟩ (.int .i64 s.e)).setCell ⟨b + 1 + 1, 0, none⟩ (.int .i64 0)).setCell ⟨b + 1 + 1, 1, none⟩ (.string e0)).setCell ⟨b + 1 + 1, 2, none⟩ (.int .i64 0)).setCell ⟨b + 1 + 1, 3, none⟩ (nl)).setCell ⟨b + 1 + 1, 4, none⟩ (nl) = wF from hwF.out]
            clear y0 y1 y2 y3 v0 v1 v2 v3 m0 m1 m2 m3 m4 o0 o1 o2 o3 o4
            have E1' := E1.out
            have E2' : wF.heap[b + 1 + 1]? = some (.cells #[.int .i64 0, .string e0, .int .i64 0, nl, nl] 30 (0, 0)) := E2.out
            obtain ⟨⟨t0, t1, t2, t3⟩, _⟩ := four_cells E1'
            obtain ⟨⟨s0, s1, s2, s3, s4⟩, _⟩ := five_cells E2'
            refine bodyPost_ret (v := .tuple #[stv x s, trv (0) (e0) (0) (nl) (nl)]) (by simp [results, Tryz.results84, go_sem, t0, t1, t2, t3, s0, s1, s2, s3, s4]) rfl ⟨0, e0, 0, none, 0, 0, none, 0, 0, rfl, E3.out, hF.out, E4.out⟩
          · have hsq : Hid (s.e = 0 ∧ s.d = q.d + 1 ∧ s.i = q.i + 1) := by
              have e1 : s = q.deep := by rw [hs.out, sinkV, if_pos hq3.out.1, if_neg h40]
              rw [e1]
              exact ⟨hq3.out.1, rfl, rfl⟩
            have hsd : Hid (s = q.deep) := by
              show s = _
              rw [hs.out, sinkV, if_pos hq3.out.1, if_neg h40]
            have hse := hsq.out.1
            have qn : (s.e != 0) = false := by rw [hse]; rfl
            have qn' : (s.e == 0) = true := by rw [hse]; rfl
            have hd4 : Hid (q.d < 40) := by have := KRd.out; show _ < _; omega
            replace h40 := Lib.hid h40
            replace hse := Lib.hid hse
            have gs : Gr (fun k => k = b) w5 ((((w5.setCell ⟨b, 0, none⟩ (.slice x.a x.ts.length x.c)).setCell ⟨b, 1, none⟩ (.int .i64 (s.i : Int))).setCell ⟨b, 2, none⟩ (.int .i64 (s.d : Int))).setCell ⟨b, 3, none⟩ (.int .i64 s.e)) := set4_gr w5 b (.slice x.a x.ts.length x.c) (.int .i64 (s.i : Int)) (.int .i64 (s.d : Int)) (.int .i64 s.e)
            have S0 : Hid (((((w5.setCell ⟨b, 0, none⟩ (.slice x.a x.ts.length x.c)).setCell ⟨b, 1, none⟩ (.int .i64 (s.i : Int))).setCell ⟨b, 2, none⟩ (.int .i64 (s.d : Int))).setCell ⟨b, 3, none⟩ (.int .i64 s.e)).heap[b]? = some (stb x s)) := set4_heap D0.out (.slice x.a x.ts.length x.c) (.int .i64 (s.i : Int)) (.int .i64 (s.d : Int)) (.int .i64 s.e)
            have hb8 := hwb3.out
            have S1 := Lib.hid (gs.keep D1.out (by omega))
            have S2 := Lib.hid (gs.keep D2.out (by omega))
            have ST := Lib.hid (gs.keep DT.out (by omega))
            have SW := Lib.hid (gs.keep DW.out (by omega))
            have G6 := Lib.hid (G5.out.trans' gs (fun k hk e => by have := hbW.out; omega))
            have R6 := Lib.hid (Rz.to (p' := s) (R5.out.gr gs (fun k hk e => by have := hNb.out; omega)) (by have := hsq.out; have := hq3.out; have := hlt.out; omega) (by have := hsq.out; have := hd4.out; omega))
            have hl6 := Lib.hid gs.size
            have Hr3 : Hid (r = ((innV x.ts ex un i s).1, (innV x.ts ex un i s).2.back q.d)) := by
              show r = _
              rw [Hr2.out, deeperV, if_neg h40.out, hsd.out]
            have hcall7 := Lib.hid (hin (by have := hd4.out; have := hq3.out; have := Hd.out; omega) i hi5.out _ _ R6.out (by have := hsq.out; have := hq3.out; have := Hd.out; omega))
            clear gs D0 D1 D2 DT DW G5 R5 y0 y1 y2 y3 v0 v1 v2 v3 m0 m1 m2 m3 m4 o0 o1 o2 o3 o4 Hr2
            go_wp2_with fail
            generalize (((w5.setCell ⟨b, 0, none⟩ (.slice x.a x.ts.length x.c)).setCell ⟨b, 1, none⟩ (.int .i64 (s.i : Int))).setCell ⟨b, 2, none⟩ (.int .i64 (s.d : Int))).setCell ⟨b, 3, none⟩ (.int .i64 s.e) = w6 at S0 S1 S2 ST SW G6 R6 hcall7 hl6 ⊢
            refine hcall7.out.mono ?_
            rintro e w7 ⟨tk, tt, tn, a1, n1, c1', a2, n2, c2', rfl, rep7, hi7, g7⟩
            generalize (innV x.ts ex un i s).2 = q3 at Hr3 rep7 hi7 ⊢
            generalize (innV x.ts ex un i s).1 = TT at Hr3 rep7 ⊢
            have hw6 : wb + 1 ≤ w6.heap.size := by have := hl6.out; omega
            have Hi7 := Lib.hid hi7
            obtain ⟨gX, XY0, XU0, hsX⟩ := two_new (x := x) (w2 := w7) (q := q3) (tk := tk) (tt := tt) (tn := tn) (u1 := .slice a1 n1 c1') (u2 := .slice a2 n2 c2') rfl
            have X1 := Lib.hid (gX.keep (g7.keep S1.out (fun e => e)) (fun e => e))
            have X2 := Lib.hid (gX.keep (g7.keep S2.out (fun e => e)) (fun e => e))
            have XW := Lib.hid (gX.keep (g7.keep SW.out (fun e => e)) (fun e => e))
            have XG := Lib.hid ((G6.out.trans g7).trans gX)
            have hw7 : wb + 1 ≤ w7.heap.size := by have := g7.size; omega
            have XR : Hid (q3.e = 0 → Rep (fun z => b + 3 ≤ z) ((w7.alloc (stb x q3)).alloc (.cells #[.int .i64 tk, .string tt, .int .i64 tn, .slice a1 n1 c1', .slice a2 n2 c2'] 30)) TT (trv tk tt tn (.slice a1 n1 c1') (.slice a2 n2 c2'))) := fun he => (rep7 he).turn (fun z hz hl => ⟨by have h9 : w6.heap.size ≤ z := hz; show b + 3 ≤ z; omega, gX.block z hl (fun e => e)⟩)
            replace XY0 := Lib.hid XY0
            replace XU0 := Lib.hid XU0
            clear S0 S1 S2 ST SW G6 R6 hcall7 hl6 rep7 hi7 g7 gX c0 c1 c2 c3 f0 f1 f2 f3
            go_wp2_with fail
            generalize (w7.alloc (stb x q3)).alloc _ = X at X1 X2 XW XY0 XU0 XG XR hsX ⊢
            obtain ⟨yb, hyb⟩ : ∃ yb, w7.heap.size = yb := ⟨_, rfl⟩
            have hyb9 : wb + 1 ≤ yb := by omega
            rw [hyb] at XY0 XU0 ⊢
            have D1 : X.drew.heap[b + 1]? = some zs := X1.out
            have D2 : X.drew.heap[b + 2]? = some zt := X2.out
            have DT : X.drew.heap[yb + 1]? = some (.cells #[.int .i64 tk, .string tt, .int .i64 tn, .slice a1 n1 c1', .slice a2 n2 c2'] 30 (0, 0)) := XU0.out
            have DW : X.drew.heap[wb]? = some (stb x q) := XW.out
            have DY : X.drew.heap[yb]? = some (stb x q3) := XY0.out
            have Gd : Hid (Gr (fun _ => False) W X.drew) := XG.out.trans (Gr.drew X _)
            have BRr : Hid (q3.e = 0 → Rep (fun z => b + 3 ≤ z) X.drew TT (trv tk tt tn (.slice a1 n1 c1') (.slice a2 n2 c2'))) := fun he => (XR.out he).turn (fun z hz hl => ⟨hz, rfl⟩)
            obtain ⟨qz, hqz⟩ : ∃ qz, qz = q3.back q.d := ⟨_, rfl⟩
            have hrise : ∀ w, Calls Tryz.prog 53 #[stv x q3, stv x q] w fun e w' => e = .returned (stv x qz) ∧ Gr (fun _ => False) w w' := fun w => by rw [hqz]; exact rrise_c w q3 q
            have hze : Hid (qz.e = q3.e) := by show _ = _; rw [hqz]; rfl
            have hqF : Hid (qz.d = p.d ∧ p.i ≤ qz.i ∧ qz.i ≤ x.ts.length) := by
              have h6 := Hi7.out
              have h7 := hsq.out
              have h9 := hq3.out
              rw [hqz]
              exact ⟨h9.2.1, by show p.i ≤ q3.i; have h1 : s.i ≤ q3.i := h6.2.1; omega, h6.2.2⟩
            rw [← hqz] at Hr3
            clear hqz X1 X2 XW XY0 XU0 XG XR hyb hsX
            have TS : Gr (fun k => k = b + 1 ∨ k = b + 2) X.drew X.drew := Gr.refl _ _
            refine wp_region_L (L := 100) (T := fun w => Gr (fun k => k = b + 1 ∨ k = b + 2) X.drew w) (by kernel_rfl) ?_
            generalize X.drew = wd at TS D1 D2 DT DW DY Gd BRr ⊢
            obtain ⟨⟨d0, d1, d2, d3⟩, _⟩ := four_cells DY
            obtain ⟨⟨u0, u1, u2, u3⟩, _⟩ := four_cells DW
            obtain ⟨⟨k0, k1, k2, k3, k4⟩, _⟩ := five_cells DT
            refine wpAnyN_at (i := 0) (v := (.agg #[.slice x.a x.ts.length x.c, .int .i64 (q3.i : Int), .int .i64 (q3.d : Int), .int .i64 q3.e])) (some 103) rfl rfl (by kernel_rfl) (by kernel_rfl) (by kernel_rfl) (by kernel_rfl) (fun _ _ _ h => h) (Or.inl ⟨by rfl, ?_⟩) TS ?_
            · intro w hSw
              have qq0 := cell_gr d0 hSw (by show ¬ (_ ∨ _); omega)
              have qq1 := cell_gr d1 hSw (by show ¬ (_ ∨ _); omega)
              have qq2 := cell_gr d2 hSw (by show ¬ (_ ∨ _); omega)
              have qq3 := cell_gr d3 hSw (by show ¬ (_ ∨ _); omega)
              have qz := World.block_lt_of_cell? _ _ qq0
              go_simp
              try (intro h; exfalso; omega)
            try simp only [Act.put, List.setIfInBounds_toArray, List.set_cons_zero, List.set_cons_succ]
            refine wpAnyN_at (i := 1) (v := (.agg #[.slice x.a x.ts.length x.c, .int .i64 (q.i : Int), .int .i64 (q.d : Int), .int .i64 q.e])) (some 104) rfl rfl (by kernel_rfl) (by kernel_rfl) (by kernel_rfl) (by kernel_rfl) (fun _ _ _ h => h) (Or.inl ⟨by rfl, ?_⟩) TS ?_
            · intro w hSw
              have qq0 := cell_gr u0 hSw (by show ¬ (_ ∨ _); omega)
              have qq1 := cell_gr u1 hSw (by show ¬ (_ ∨ _); omega)
              have qq2 := cell_gr u2 hSw (by show ¬ (_ ∨ _); omega)
              have qq3 := cell_gr u3 hSw (by show ¬ (_ ∨ _); omega)
              have qz := World.block_lt_of_cell? _ _ qq0
              go_simp
              try (intro h; exfalso; omega)
            try simp only [Act.put, List.setIfInBounds_toArray, List.set_cons_zero, List.set_cons_succ]
            refine wpAnyN_at (i := 3) (v := (.agg #[.int .i64 tk, .string tt, .int .i64 tn, .slice a1 n1 c1', .slice a2 n2 c2'])) (some 106) rfl rfl (by kernel_rfl) (by kernel_rfl) (by kernel_rfl) (by kernel_rfl) (fun _ _ _ h => h) (Or.inl ⟨by rfl, ?_⟩) TS ?_
            · intro w hSw
              have qq0 := cell_gr k0 hSw (by show ¬ (_ ∨ _); omega)
              have qq1 := cell_gr k1 hSw (by show ¬ (_ ∨ _); omega)
              have qq2 := cell_gr k2 hSw (by show ¬ (_ ∨ _); omega)
              have qq3 := cell_gr k3 hSw (by show ¬ (_ ∨ _); omega)
              have qq4 := cell_gr k4 hSw (by show ¬ (_ ∨ _); omega)
              have qz := World.block_lt_of_cell? _ _ qq0
              go_simp
              try (intro h; exfalso; omega)
            try simp only [Act.put, List.setIfInBounds_toArray, List.set_cons_zero, List.set_cons_succ]
            refine wpAnyL_one (i := 2) (by kernel_rfl) rfl (fun K hK => ?_)
            go_simp
            refine (hrise wd).mono ?_
            rintro e w9 ⟨rfl, g9⟩
            refine hK.out _ _ (fun _ => g9.any _) ?_
            clear hK K
            try simp only [Act.put, List.setIfInBounds_toArray, List.set_cons_zero, List.set_cons_succ]
            have F1 := g9.keep D1 (fun e => e)
            have F2 := g9.keep D2 (fun e => e)
            obtain ⟨E1, E2, E3, E4⟩ := end3 (x := x) (q := qz) (T := TT) (k := tk) (s := tt) (n := tn) (bv := .slice a1 n1 c1') (lv := .slice a2 n2 c2') (Gd.out.trans g9) hbW.out F1 F2 (fun he => (BRr.out (hze.out.symm.trans he)).turn (fun z hz hl => ⟨hz, g9.block z hl (fun e => e)⟩))
            obtain ⟨wF, hwF⟩ : ∃ wF, set5 (set4 w9 (b + 1) (.slice x.a x.ts.length x.c) (.int .i64 (qz.i : Int)) (.int .i64 (qz.d : Int)) (.int .i64 qz.e)) (b + 2) (.int .i64 tk) (.string tt) (.int .i64 tn) (.slice a1 n1 c1') (.slice a2 n2 c2') = wF := ⟨_, rfl⟩
            rw [hwF] at E1 E2 E3 E4
            replace E1 := Lib.hid E1
            replace E2 := Lib.hid E2
            replace E3 := Lib.hid E3
            replace E4 := Lib.hid E4
            replace hwF := Lib.hid hwF
            obtain ⟨⟨y0, y1, y2, y3⟩, v0, v1, v2, v3⟩ := four_cells F1
            obtain ⟨⟨m0, m1, m2, m3, m4⟩, o0, o1, o2, o3, o4⟩ := five_cells F2
            have hlz : b + 2 < w9.heap.size := (Array.getElem?_eq_some_iff.1 F2).1
            have hlz' : b + 1 < w9.heap.size := by omega
            have TA : Gr (fun k => k = b + 1 ∨ k = b + 2) wd (set4 w9 (b + 1) (.slice x.a x.ts.length x.c) (.int .i64 (qz.i : Int)) (.int .i64 (qz.d : Int)) (.int .i64 qz.e)) := (g9.any _).trans' (set4_gr w9 (b + 1) _ _ _ _) (fun _ _ e => .inl e)
            have TB : Gr (fun k => k = b + 1 ∨ k = b + 2) wd (set5 (set4 w9 (b + 1) (.slice x.a x.ts.length x.c) (.int .i64 (qz.i : Int)) (.int .i64 (qz.d : Int)) (.int .i64 qz.e)) (b + 2) (.int .i64 tk) (.string tt) (.int .i64 tn) (.slice a1 n1 c1') (.slice a2 n2 c2')) := TA.trans' (set5_gr _ (b + 2) _ _ _ _ _) (fun _ _ e => .inr e)
            refine wpAnyL_one (i := 4) (by kernel_rfl) rfl (fun K hK => ?_)
            go_simp
            refine hK.out _ _ (fun _ => TA) ?_
            clear hK K
            try simp only [Act.put, List.setIfInBounds_toArray, List.set_cons_zero, List.set_cons_succ]
            refine wpAnyL_one (i := 5) (by kernel_rfl) rfl (fun K hK => ?_)
            go_simp
            refine hK.out _ _ (fun _ => TB) ?_
            clear hK K
            try simp only [Act.put, List.setIfInBounds_toArray, List.set_cons_zero, List.set_cons_succ]
            refine wpAnyL_done (by kernel_rfl) ?_ _
            refine NoPanic.normal ?_
            clear TS TA TB
            go_wp2_with fail
            rw [Hr3.out]
            rw [show ((((((((w9.setCell ⟨b + 1, 0, none⟩ (.slice x.a x.ts.length x.c)).setCell ⟨b + 1, 1, none⟩ (.int .i64 (qz.i : Int))).setCell ⟨b + 1, 2, none⟩ (.int .i64 (qz.d : Int))).setCell ⟨b + 1, 3, none⟩ (.int .i64 qz.e)).setCell ⟨b + 1 + 1, 0, none⟩ (.int .i64 tk)).setCell ⟨b + 1 + 1, 1, none⟩ (.string tt)).setCell ⟨b + 1 + 1, 2, none⟩ (.int .i64 tn)).setCell ⟨b + 1 + 1, 3, none⟩ (.slice a1 n1 c1')).setCell ⟨b + 1 + 1, 4, none⟩ (.slice a2 n2 c2') = wF from hwF.out]
            clear y0 y1 y2 y3 v0 v1 v2 v3 m0 m1 m2 m3 m4 o0 o1 o2 o3 o4
            have E1' := E1.out
            have E2' : wF.heap[b + 1 + 1]? = some (.cells #[.int .i64 tk, .string tt, .int .i64 tn, .slice a1 n1 c1', .slice a2 n2 c2'] 30 (0, 0)) := E2.out
            obtain ⟨⟨t0, t1, t2, t3⟩, _⟩ := four_cells E1'
            obtain ⟨⟨s0, s1, s2, s3, s4⟩, _⟩ := five_cells E2'
            refine bodyPost_ret (v := .tuple #[stv x qz, trv (tk) (tt) (tn) (.slice a1 n1 c1') (.slice a2 n2 c2')]) (by simp [results, Tryz.results84, go_sem, t0, t1, t2, t3, s0, s1, s2, s3, s4]) rfl ⟨tk, tt, tn, a1, n1, c1', a2, n2, c2', rfl, E3.out, hqF.out, E4.out⟩
      · have hdi : decide ((i : Int) < 5) = false := by simp; omega
        obtain rfl : i = 5 := by omega
        have Hr3 : Hid (r = (tr0, failV 160 p)) := by
          show r = _
          rw [hR.out]
          rfl
        have C0 := hG.out.keep B0.out (fun e => e)
        have C1 := Lib.hid (hG.out.keep B1.out (fun e => e))
        have C2 := Lib.hid (hG.out.keep B2.out (fun e => e))
        have CG := Lib.hid (BG.out.trans hG.out)
        obtain ⟨⟨c0, c1, c2, c3⟩, f0, f1, f2, f3⟩ := four_cells C0
        have hbl : b < wr.heap.size := (Array.getElem?_eq_some_iff.1 C0).1
        have hbad := Lib.hid (rbad_c (x := x) wr p 160)
        obtain ⟨s, hs⟩ : ∃ s, s = failV 160 p := ⟨_, rfl⟩
        have hF : Hid (s.d = p.d ∧ p.i ≤ s.i ∧ s.i ≤ x.ts.length ∧ s.e ≠ 0) := by
          have h1 := failV_same 160 p
          have h2 := Hi0.out
          rw [hs]
          refine ⟨h1.2, by omega, by omega, ?_⟩
          unfold failV
          by_cases he : p.e = 0
          · rw [if_pos he]; show (160 : Int) ≠ 0; decide
          · rw [if_neg he]; exact he
        rw [← hs] at hbad Hr3
        clear hs C0 hR B0 B1 B2 BO BG BR hi
        go_wp2_with fail
        refine hbad.out.mono ?_
        rintro e w5 ⟨rfl, g5⟩
        have D1 := g5.keep C1.out (fun e => e)
        have D2 := g5.keep C2.out (fun e => e)
        obtain ⟨E1, E2, E3, E4⟩ := end3 (x := x) (q := s) (T := tr0) (k := 0) (s := e0) (n := 0) (bv := nl) (lv := nl) (CG.out.trans g5) hbW.out D1 D2 (fun he => absurd he hF.out.2.2.2)
        obtain ⟨wF, hwF⟩ : ∃ wF, set5 (set4 w5 (b + 1) (.slice x.a x.ts.length x.c) (.int .i64 (s.i : Int)) (.int .i64 (s.d : Int)) (.int .i64 s.e)) (b + 2) (.int .i64 0) (.string e0) (.int .i64 0) (nl) (nl) = wF := ⟨_, rfl⟩
        rw [hwF] at E1 E2 E3 E4
        replace E1 := Lib.hid E1
        replace E2 := Lib.hid E2
        replace E3 := Lib.hid E3
        replace E4 := Lib.hid E4
        replace hwF := Lib.hid hwF
        obtain ⟨⟨y0, y1, y2, y3⟩, v0, v1, v2, v3⟩ := four_cells D1
        obtain ⟨⟨m0, m1, m2, m3, m4⟩, o0, o1, o2, o3, o4⟩ := five_cells D2
        have hlz : b + 2 < w5.heap.size := (Array.getElem?_eq_some_iff.1 D2).1
        have hlz' : b + 1 < w5.heap.size := by omega
        clear c0 c1 c2 c3 f0 f1 f2 f3 D1 D2 C1 C2 CG hbad g5
        go_wp2_with fail
        rw [Hr3.out]
        rw [show ((((((((w5.setCell ⟨b + 1, 0, none⟩ (.slice x.a x.ts.length x.c)).setCell ⟨b + 1, 1, none⟩ (.int .i64 (s.i : Int))).setCell ⟨b + 1, 2, none⟩ (.int .i64 (s.d : Int))).setCell ⟨b + 1, 3, none⟩ (.int .i64 s.e)).setCell ⟨b + 1 + 1, 0, none⟩ (.int .i64 0)).setCell ⟨b + 1 + 1, 1, none⟩ (.string e0)).setCell ⟨b + 1 + 1, 2, none⟩ (.int .i64 0)).setCell ⟨b + 1 + 1, 3, none⟩ (nl)).setCell ⟨b + 1 + 1, 4, none⟩ (nl) = wF from hwF.out]
        clear y0 y1 y2 y3 v0 v1 v2 v3 m0 m1 m2 m3 m4 o0 o1 o2 o3 o4
        have E1' := E1.out
        have E2' : wF.heap[b + 1 + 1]? = some (.cells #[.int .i64 0, .string e0, .int .i64 0, nl, nl] 30 (0, 0)) := E2.out
        obtain ⟨⟨t0, t1, t2, t3⟩, _⟩ := four_cells E1'
        obtain ⟨⟨s0, s1, s2, s3, s4⟩, _⟩ := five_cells E2'
        refine bodyPost_ret (v := .tuple #[stv x s, trv (0) (e0) (0) (nl) (nl)]) (by simp [results, Tryz.results84, go_sem, t0, t1, t2, t3, s0, s1, s2, s3, s4]) rfl ⟨0, e0, 0, none, 0, 0, none, 0, 0, rfl, E3.out, ⟨hF.out.1, hF.out.2.1, hF.out.2.2.1⟩, E4.out⟩
  · go_wp2_with fail
    generalize w2.alloc _ = W2 at B0 B1 B2 BO BG BR ⊢
    obtain ⟨tb, htb⟩ : ∃ tb, w2.heap.size = tb := ⟨_, rfl⟩
    rw [htb] at BO hbw2 ⊢
    replace htb := Lib.hid htb
    replace hb := Lib.hid hb
    go_loopw [10] (fun u wr => ∃ i : Nat, i ≤ 5 ∧ u = .int .i64 (i : Int) ∧ Hid (r = nestR x.ts ex un p ((nOpen.drop i).find? fun y => isV x.ts p y.1)) ∧ Hid (Gr (fun _ => False) W2 wr)) (fun u _ => 5 - (intOf u).toNat)
    case atStart => exact ⟨0, by omega, rfl, Hr, Gr.refl _ _⟩
    case round =>
      obtain ⟨i, hi, rfl, hR, hG⟩ := hrel
      by_cases hlti : i < 5
      · have hdi : decide ((i : Int) < 5) = true := by simp; omega
        have hiI : (i : Int) < 5 := by omega
        obtain ⟨s0, hjs, k0'⟩ := n_at (hG.out.keep BO.out (fun e => e)) i hlti
        have C0 := hG.out.keep B0.out (fun e => e)
        obtain ⟨⟨c0', c1', c2', c3'⟩, _⟩ := four_cells C0
        have hR2 := Lib.hid (hR.out.trans (congrArg (nestR x.ts ex un p) (find_drop (fun y => isV x.ts p y.1) hjs)))
        have hbl : b < wr.heap.size := (Array.getElem?_eq_some_iff.1 C0).1
        have his := ris_c ((BR.out.g0 hG.out).g0 (Gr.drew wr _)) s0
        have k0 : wr.drew.cell? ⟨tb, i, none⟩ = some (.string s0) := k0'
        have c0 : wr.drew.cell? ⟨b, 0, none⟩ = _ := c0'
        have c1 : wr.drew.cell? ⟨b, 1, none⟩ = _ := c1'
        have c2 : wr.drew.cell? ⟨b, 2, none⟩ = _ := c2'
        have c3 : wr.drew.cell? ⟨b, 3, none⟩ = _ := c3'
        have GD := Lib.hid (hG.out.trans (Gr.drew wr _))
        clear c0' c1' c2' c3' k0' hR hjs C0
        cases q0 : isV x.ts p s0 with
        | false =>
          have hr3 : Hid (r = nestR x.ts ex un p ((nOpen.drop (i + 1)).find? fun y => isV x.ts p y.1)) := by
            show r = _
            rw [hR2.out, if_neg (by simp [q0])]
          rw [q0] at his
          clear hR2 q0
          go_wp2_with fail
          have TS : Gr (fun _ => False) wr.drew wr.drew := Gr.refl _ _
          refine wp_region_L (L := 100) (T := fun w => Gr (fun _ => False) wr.drew w) (by kernel_rfl) ?_
          refine wpAnyN_at (i := 0) (v := (.agg #[.slice x.a x.ts.length x.c, .int .i64 (p.i : Int), .int .i64 (p.d : Int), .int .i64 p.e])) (some 84) rfl rfl (by kernel_rfl) (by kernel_rfl) (by kernel_rfl) (by kernel_rfl) (fun _ _ _ h => h) (Or.inl ⟨by rfl, ?_⟩) TS ?_
          · intro w hSw
            have qq0 := cell_gr c0 hSw (fun e => e)
            have qq1 := cell_gr c1 hSw (fun e => e)
            have qq2 := cell_gr c2 hSw (fun e => e)
            have qq3 := cell_gr c3 hSw (fun e => e)
            have qz := World.block_lt_of_cell? _ _ qq0
            go_simp
            try (intro h; exfalso; omega)
          try simp only [Act.put, List.setIfInBounds_toArray, List.set_cons_zero, List.set_cons_succ]
          refine wpAnyN_at (i := 1) (v := .int .i64 (i : Int)) (some 85) rfl rfl (by kernel_rfl) (by kernel_rfl) (by kernel_rfl) (by kernel_rfl) (fun _ _ _ h => h) (Or.inl ⟨by rfl, ?_⟩) TS ?_
          · intro w hSw
            go_simp
            try (intro h; exfalso; omega)
          try simp only [Act.put, List.setIfInBounds_toArray, List.set_cons_zero, List.set_cons_succ]
          refine wpAnyN_at (i := 2) (v := ptr tb i) (some 86) rfl rfl (by kernel_rfl) (by kernel_rfl) (by kernel_rfl) (by kernel_rfl) (fun _ _ _ h => h) (Or.inl ⟨by rfl, ?_⟩) TS ?_
          · intro w hSw
            go_simp
            try (intro h; exfalso; omega)
          try simp only [Act.put, List.setIfInBounds_toArray, List.set_cons_zero, List.set_cons_succ]
          refine wpAnyN_at (i := 3) (v := .string s0) (some 87) rfl rfl (by kernel_rfl) (by kernel_rfl) (by kernel_rfl) (by kernel_rfl) (fun _ _ _ h => h) (Or.inl ⟨by rfl, ?_⟩) TS ?_
          · intro w hSw
            have qq0 := cell_gr k0 hSw (fun e => e)
            have qz := World.block_lt_of_cell? _ _ qq0
            go_simp
            try (intro h; exfalso; omega)
          try simp only [Act.put, List.setIfInBounds_toArray, List.set_cons_zero, List.set_cons_succ]
          refine wpAnyL_one (i := 4) (by kernel_rfl) rfl (fun K hK => ?_)
          go_simp
          refine his.mono ?_
          rintro e w3 ⟨rfl, g3⟩
          have TS : Gr (fun _ => False) wr.drew w3 := g3
          refine hK.out _ _ (fun _ => TS) ?_
          clear hK K
          try simp only [Act.put, List.setIfInBounds_toArray, List.set_cons_zero, List.set_cons_succ]
          refine wpAnyL_done (by kernel_rfl) ?_ _
          refine NoPanic.normal ?_
          go_wp2_with fail
          exact ⟨⟨i + 1, hlti, by go_num, hr3, GD.out.trans TS⟩, by simp [intOf]; omega⟩
        | true =>
          have Hr2 : Hid (r = deeperV (innV x.ts ex un i) p) := by
            show r = _
            rw [hR2.out, if_pos (by simp [q0])]
            rfl
          have hlt := Lib.hid (isV_lt' q0)
          rw [q0] at his
          clear hR2 q0
          go_wp2_with fail
          have TS : Gr (fun _ => False) wr.drew wr.drew := Gr.refl _ _
          refine wp_region_L (L := 100) (T := fun w => Gr (fun _ => False) wr.drew w) (by kernel_rfl) ?_
          refine wpAnyN_at (i := 0) (v := (.agg #[.slice x.a x.ts.length x.c, .int .i64 (p.i : Int), .int .i64 (p.d : Int), .int .i64 p.e])) (some 84) rfl rfl (by kernel_rfl) (by kernel_rfl) (by kernel_rfl) (by kernel_rfl) (fun _ _ _ h => h) (Or.inl ⟨by rfl, ?_⟩) TS ?_
          · intro w hSw
            have qq0 := cell_gr c0 hSw (fun e => e)
            have qq1 := cell_gr c1 hSw (fun e => e)
            have qq2 := cell_gr c2 hSw (fun e => e)
            have qq3 := cell_gr c3 hSw (fun e => e)
            have qz := World.block_lt_of_cell? _ _ qq0
            go_simp
            try (intro h; exfalso; omega)
          try simp only [Act.put, List.setIfInBounds_toArray, List.set_cons_zero, List.set_cons_succ]
          refine wpAnyN_at (i := 1) (v := .int .i64 (i : Int)) (some 85) rfl rfl (by kernel_rfl) (by kernel_rfl) (by kernel_rfl) (by kernel_rfl) (fun _ _ _ h => h) (Or.inl ⟨by rfl, ?_⟩) TS ?_
          · intro w hSw
            go_simp
            try (intro h; exfalso; omega)
          try simp only [Act.put, List.setIfInBounds_toArray, List.set_cons_zero, List.set_cons_succ]
          refine wpAnyN_at (i := 2) (v := ptr tb i) (some 86) rfl rfl (by kernel_rfl) (by kernel_rfl) (by kernel_rfl) (by kernel_rfl) (fun _ _ _ h => h) (Or.inl ⟨by rfl, ?_⟩) TS ?_
          · intro w hSw
            go_simp
            try (intro h; exfalso; omega)
          try simp only [Act.put, List.setIfInBounds_toArray, List.set_cons_zero, List.set_cons_succ]
          refine wpAnyN_at (i := 3) (v := .string s0) (some 87) rfl rfl (by kernel_rfl) (by kernel_rfl) (by kernel_rfl) (by kernel_rfl) (fun _ _ _ h => h) (Or.inl ⟨by rfl, ?_⟩) TS ?_
          · intro w hSw
            have qq0 := cell_gr k0 hSw (fun e => e)
            have qz := World.block_lt_of_cell? _ _ qq0
            go_simp
            try (intro h; exfalso; omega)
          try simp only [Act.put, List.setIfInBounds_toArray, List.set_cons_zero, List.set_cons_succ]
          refine wpAnyL_one (i := 4) (by kernel_rfl) rfl (fun K hK => ?_)
          go_simp
          refine his.mono ?_
          rintro e w3 ⟨rfl, g3⟩
          have TS : Gr (fun _ => False) wr.drew w3 := g3
          refine hK.out _ _ (fun _ => TS) ?_
          clear hK K
          try simp only [Act.put, List.setIfInBounds_toArray, List.set_cons_zero, List.set_cons_succ]
          refine wpAnyL_done (by kernel_rfl) ?_ _
          refine NoPanic.normal ?_
          have K0 := Lib.hid (TS.keep (GD.out.keep B0.out (fun e => e)) (fun e => e))
          have K1 := Lib.hid (TS.keep (GD.out.keep B1.out (fun e => e)) (fun e => e))
          have K2 := Lib.hid (TS.keep (GD.out.keep B2.out (fun e => e)) (fun e => e))
          have KT := Lib.hid (TS.keep (GD.out.keep BO.out (fun e => e)) (fun e => e))
          have KG := Lib.hid ((BG.out.trans GD.out).trans TS)
          have KR := Lib.hid ((BR.out.g0 GD.out).g0 TS)
          have hs3 : Hid (tb + 1 ≤ w3.heap.size) := (Array.getElem?_eq_some_iff.1 KT.out).1
          clear c0 c1 c2 c3 k0 TS his g3 hbl hG GD
          obtain ⟨q, hq⟩ : ∃ q, p = q := ⟨_, rfl⟩
          have hq3 : Hid (q.e = 0 ∧ q.d = p.d ∧ q.i = p.i ∧ q.i ≤ x.ts.length) := by rw [← hq]; exact ⟨hlt.out.1, rfl, rfl, Hi0.out⟩
          rw [hq] at K0 KR
          replace Hr2 : Hid (r = deeperV (innV x.ts ex un i) q) := by show r = _; rw [← hq]; exact Hr2.out
          replace hlt : Hid (q.e = 0 ∧ q.i < x.ts.length) := by rw [← hq]; exact hlt.out
          have KRd' : Hid (q.d ≤ 40) := by rw [← hq]; exact KRd.out
          have KRd := KRd'
          replace hq := Lib.hid hq
          have hi5 := Lib.hid hlti
          clear B0 B1 B2 BO BG BR hlti hdi hiI hi
          have ga : Gr (fun _ => False) w3 (w3.alloc (stb x q)) := Gr.alloc w3 (stb x q) (fun _ => False)
          have hnew := heap_alloc_new w3 (stb x q)
          have hsink := Lib.hid (rsink_c (KR.out.g0 ga))
          have RA := Lib.hid (KR.out.g0 ga)
          obtain ⟨s, hs⟩ : ∃ s, s = sinkV q := ⟨_, rfl⟩
          rw [← hs] at hsink
          obtain ⟨⟨c0, c1, c2, c3⟩, f0, f1, f2, f3⟩ := four_cells K0.out
          have hlb : b < w3.heap.size := by have := hbw2.out; have := hs3.out; omega
          replace ga := Lib.hid ga
          replace hnew := Lib.hid hnew
          replace hs := Lib.hid hs
          go_wp2_with fail
          refine hsink.out.mono ?_
          rintro e w5 ⟨rfl, g5⟩
          have D0 := Lib.hid (g5.keep (ga.out.keep K0.out (fun e => e)) (fun e => e))
          have D1 := Lib.hid (g5.keep (ga.out.keep K1.out (fun e => e)) (fun e => e))
          have D2 := Lib.hid (g5.keep (ga.out.keep K2.out (fun e => e)) (fun e => e))
          have DT := Lib.hid (g5.keep (ga.out.keep KT.out (fun e => e)) (fun e => e))
          have DW := Lib.hid (g5.keep hnew.out (fun e => e))
          have G5 := Lib.hid ((KG.out.trans ga.out).trans g5)
          have R5 := Lib.hid (RA.out.g0 g5)
          obtain ⟨wb, hwb⟩ : ∃ wb, w3.heap.size = wb := ⟨_, rfl⟩
          have hwb3 : Hid (tb + 1 ≤ wb) := by have := hs3.out; show _ ≤ _; omega
          have hw5 : Hid (wb + 1 ≤ w5.heap.size) := by have := g5.size; have h9 : (w3.alloc (stb x q)).heap.size = w3.heap.size + 1 := by simp
                                                       show _ ≤ _; omega
          rw [hwb] at DW ⊢
          clear c0 c1 c2 c3 f0 f1 f2 f3 hlb ga hnew hsink RA g5 K0 K1 K2 KT KG KR hwb
          obtain ⟨⟨c0, c1, c2, c3⟩, f0, f1, f2, f3⟩ := four_cells D0.out
          obtain ⟨⟨y0, y1, y2, y3⟩, v0, v1, v2, v3⟩ := four_cells D1.out
          obtain ⟨⟨m0, m1, m2, m3, m4⟩, o0, o1, o2, o3, o4⟩ := five_cells D2.out
          have hb9 := hbw2.out
          have hw9 := hw5.out
          have hlz : b + 2 < w5.heap.size := (Array.getElem?_eq_some_iff.1 D2.out).1
          have hlz' : b + 1 < w5.heap.size := by omega
          have hlb : b < w5.heap.size := by omega
          by_cases h40 : q.d = 40
          · have he1 : s.e = 161 ∧ s.d = q.d ∧ s.i = q.i := by
              rw [hs.out, sinkV, if_pos hq3.out.1, if_pos h40, failV, if_pos hq3.out.1]
              exact ⟨rfl, rfl, rfl⟩
            have Hr3 : Hid (r = (tr0, s)) := by
              show r = _
              rw [Hr2.out, deeperV, if_pos h40, hs.out, sinkV, if_pos hq3.out.1, if_pos h40]
            have qn : (s.e != 0) = true := by rw [he1.1]; rfl
            have qn' : (s.e == 0) = false := by rw [he1.1]; rfl
            have hF : Hid (s.d = p.d ∧ p.i ≤ s.i ∧ s.i ≤ x.ts.length) := by
              have h1 := hq3.out
              exact ⟨by omega, by omega, by omega⟩
            obtain ⟨wX, hwX⟩ : ∃ wX, set4 w5 b (.slice x.a x.ts.length x.c) (.int .i64 (s.i : Int)) (.int .i64 (s.d : Int)) (.int .i64 s.e) = wX := ⟨_, rfl⟩
            have gx : Gr (fun k => k = b) w5 wX := by rw [← hwX]; exact set4_gr _ _ _ _ _ _
            have DX1 := gx.keep D1.out (by omega)
            have DX2 := gx.keep D2.out (by omega)
            have GX := G5.out.trans' gx (fun k hk e => by have := hbW.out; omega)
            have h161 := Lib.hid he1.1
            clear he1
            obtain ⟨E1, E2, E3, E4⟩ := end3 (x := x) (q := s) (T := tr0) (k := 0) (s := e0) (n := 0) (bv := nl) (lv := nl) (GX) hbW.out DX1 DX2 (fun he => absurd (he.symm.trans h161.out) (by decide))
            obtain ⟨wF, hwF⟩ : ∃ wF, set5 (set4 wX (b + 1) (.slice x.a x.ts.length x.c) (.int .i64 (s.i : Int)) (.int .i64 (s.d : Int)) (.int .i64 s.e)) (b + 2) (.int .i64 0) (.string e0) (.int .i64 0) (nl) (nl) = wF := ⟨_, rfl⟩
            rw [hwF] at E1 E2 E3 E4
            replace E1 := Lib.hid E1
            replace E2 := Lib.hid E2
            replace E3 := Lib.hid E3
            replace E4 := Lib.hid E4
            replace hwF := Lib.hid hwF
            replace hwX := Lib.hid hwX
            clear DX1 DX2 GX gx
            replace h40 := Lib.hid h40
            go_wp2_with fail
            rw [Hr3.out]
            rw [show (((w5.setCell ⟨b, 0, none⟩ (.slice x.a x.ts.length x.c)).setCell ⟨b, 1, none⟩ (.int .i64 (s.i : Int))).setCell ⟨b, 2, none⟩ (.int .i64 (s.d : Int))).setCell ⟨b, 3, none⟩ (.int .i64 s.e) = wX from hwX.out]
            rw [show ((((((((wX.setCell ⟨b + 1, 0, none⟩ (.slice x.a x.ts.length x.c)).setCell ⟨b + 1, 1, none⟩ (.int .i64 (s.i : Int))).setCell ⟨b + 1, 2, none⟩ (.int .i64 (s.d : Int))).setCell ⟨b + 1, 3, none⟩ (.int .i64 s.e)).setCell ⟨b + 1 + 1, 0, none⟩ (.int .i64 0)).setCell ⟨b + 1 + 1, 1, none⟩ (.string e0)).setCell ⟨b + 1 + 1, 2, none⟩ (.int .i64 0)).setCell ⟨b + 1 + 1, 3, none⟩ (nl)).setCell ⟨b + 1 + 1, 4, none⟩ (nl) = wF from hwF.out]
            clear y0 y1 y2 y3 v0 v1 v2 v3 m0 m1 m2 m3 m4 o0 o1 o2 o3 o4
            have E1' := E1.out
            have E2' : wF.heap[b + 1 + 1]? = some (.cells #[.int .i64 0, .string e0, .int .i64 0, nl, nl] 30 (0, 0)) := E2.out
            obtain ⟨⟨t0, t1, t2, t3⟩, _⟩ := four_cells E1'
            obtain ⟨⟨s0, s1, s2, s3, s4⟩, _⟩ := five_cells E2'
            refine bodyPost_ret (v := .tuple #[stv x s, trv (0) (e0) (0) (nl) (nl)]) (by simp [results, Tryz.results84, go_sem, t0, t1, t2, t3, s0, s1, s2, s3, s4]) rfl ⟨0, e0, 0, none, 0, 0, none, 0, 0, rfl, E3.out, hF.out, E4.out⟩
          · have hsq : Hid (s.e = 0 ∧ s.d = q.d + 1 ∧ s.i = q.i + 1) := by
              have e1 : s = q.deep := by rw [hs.out, sinkV, if_pos hq3.out.1, if_neg h40]
              rw [e1]
              exact ⟨hq3.out.1, rfl, rfl⟩
            have hsd : Hid (s = q.deep) := by
              show s = _
              rw [hs.out, sinkV, if_pos hq3.out.1, if_neg h40]
            have hse := hsq.out.1
            have qn : (s.e != 0) = false := by rw [hse]; rfl
            have qn' : (s.e == 0) = true := by rw [hse]; rfl
            have hd4 : Hid (q.d < 40) := by have := KRd.out; show _ < _; omega
            replace h40 := Lib.hid h40
            replace hse := Lib.hid hse
            have gs : Gr (fun k => k = b) w5 ((((w5.setCell ⟨b, 0, none⟩ (.slice x.a x.ts.length x.c)).setCell ⟨b, 1, none⟩ (.int .i64 (s.i : Int))).setCell ⟨b, 2, none⟩ (.int .i64 (s.d : Int))).setCell ⟨b, 3, none⟩ (.int .i64 s.e)) := set4_gr w5 b (.slice x.a x.ts.length x.c) (.int .i64 (s.i : Int)) (.int .i64 (s.d : Int)) (.int .i64 s.e)
            have S0 : Hid (((((w5.setCell ⟨b, 0, none⟩ (.slice x.a x.ts.length x.c)).setCell ⟨b, 1, none⟩ (.int .i64 (s.i : Int))).setCell ⟨b, 2, none⟩ (.int .i64 (s.d : Int))).setCell ⟨b, 3, none⟩ (.int .i64 s.e)).heap[b]? = some (stb x s)) := set4_heap D0.out (.slice x.a x.ts.length x.c) (.int .i64 (s.i : Int)) (.int .i64 (s.d : Int)) (.int .i64 s.e)
            have hb8 := hwb3.out
            have S1 := Lib.hid (gs.keep D1.out (by omega))
            have S2 := Lib.hid (gs.keep D2.out (by omega))
            have ST := Lib.hid (gs.keep DT.out (by omega))
            have SW := Lib.hid (gs.keep DW.out (by omega))
            have G6 := Lib.hid (G5.out.trans' gs (fun k hk e => by have := hbW.out; omega))
            have R6 := Lib.hid (Rz.to (p' := s) (R5.out.gr gs (fun k hk e => by have := hNb.out; omega)) (by have := hsq.out; have := hq3.out; have := hlt.out; omega) (by have := hsq.out; have := hd4.out; omega))
            have hl6 := Lib.hid gs.size
            have Hr3 : Hid (r = ((innV x.ts ex un i s).1, (innV x.ts ex un i s).2.back q.d)) := by
              show r = _
              rw [Hr2.out, deeperV, if_neg h40.out, hsd.out]
            have hcall7 := Lib.hid (hin (by have := hd4.out; have := hq3.out; have := Hd.out; omega) i hi5.out _ _ R6.out (by have := hsq.out; have := hq3.out; have := Hd.out; omega))
            clear gs D0 D1 D2 DT DW G5 R5 y0 y1 y2 y3 v0 v1 v2 v3 m0 m1 m2 m3 m4 o0 o1 o2 o3 o4 Hr2
            go_wp2_with fail
            generalize (((w5.setCell ⟨b, 0, none⟩ (.slice x.a x.ts.length x.c)).setCell ⟨b, 1, none⟩ (.int .i64 (s.i : Int))).setCell ⟨b, 2, none⟩ (.int .i64 (s.d : Int))).setCell ⟨b, 3, none⟩ (.int .i64 s.e) = w6 at S0 S1 S2 ST SW G6 R6 hcall7 hl6 ⊢
            refine hcall7.out.mono ?_
            rintro e w7 ⟨tk, tt, tn, a1, n1, c1', a2, n2, c2', rfl, rep7, hi7, g7⟩
            generalize (innV x.ts ex un i s).2 = q3 at Hr3 rep7 hi7 ⊢
            generalize (innV x.ts ex un i s).1 = TT at Hr3 rep7 ⊢
            have hw6 : wb + 1 ≤ w6.heap.size := by have := hl6.out; omega
            have Hi7 := Lib.hid hi7
            obtain ⟨gX, XY0, XU0, hsX⟩ := two_new (x := x) (w2 := w7) (q := q3) (tk := tk) (tt := tt) (tn := tn) (u1 := .slice a1 n1 c1') (u2 := .slice a2 n2 c2') rfl
            have X1 := Lib.hid (gX.keep (g7.keep S1.out (fun e => e)) (fun e => e))
            have X2 := Lib.hid (gX.keep (g7.keep S2.out (fun e => e)) (fun e => e))
            have XW := Lib.hid (gX.keep (g7.keep SW.out (fun e => e)) (fun e => e))
            have XG := Lib.hid ((G6.out.trans g7).trans gX)
            have hw7 : wb + 1 ≤ w7.heap.size := by have := g7.size; omega
            have XR : Hid (q3.e = 0 → Rep (fun z => b + 3 ≤ z) ((w7.alloc (stb x q3)).alloc (.cells #[.int .i64 tk, .string tt, .int .i64 tn, .slice a1 n1 c1', .slice a2 n2 c2'] 30)) TT (trv tk tt tn (.slice a1 n1 c1') (.slice a2 n2 c2'))) := fun he => (rep7 he).turn (fun z hz hl => ⟨by have h9 : w6.heap.size ≤ z := hz; show b + 3 ≤ z; omega, gX.block z hl (fun e => e)⟩)
            replace XY0 := Lib.hid XY0
            replace XU0 := Lib.hid XU0
            clear S0 S1 S2 ST SW G6 R6 hcall7 hl6 rep7 hi7 g7 gX c0 c1 c2 c3 f0 f1 f2 f3
            go_wp2_with fail
            generalize (w7.alloc (stb x q3)).alloc _ = X at X1 X2 XW XY0 XU0 XG XR hsX ⊢
            obtain ⟨yb, hyb⟩ : ∃ yb, w7.heap.size = yb := ⟨_, rfl⟩
            have hyb9 : wb + 1 ≤ yb := by omega
            rw [hyb] at XY0 XU0 ⊢
            have D1 : X.drew.heap[b + 1]? = some zs := X1.out
            have D2 : X.drew.heap[b + 2]? = some zt := X2.out
            have DT : X.drew.heap[yb + 1]? = some (.cells #[.int .i64 tk, .string tt, .int .i64 tn, .slice a1 n1 c1', .slice a2 n2 c2'] 30 (0, 0)) := XU0.out
            have DW : X.drew.heap[wb]? = some (stb x q) := XW.out
            have DY : X.drew.heap[yb]? = some (stb x q3) := XY0.out
            have Gd : Hid (Gr (fun _ => False) W X.drew) := XG.out.trans (Gr.drew X _)
            have BRr : Hid (q3.e = 0 → Rep (fun z => b + 3 ≤ z) X.drew TT (trv tk tt tn (.slice a1 n1 c1') (.slice a2 n2 c2'))) := fun he => (XR.out he).turn (fun z hz hl => ⟨hz, rfl⟩)
            obtain ⟨qz, hqz⟩ : ∃ qz, qz = q3.back q.d := ⟨_, rfl⟩
            have hrise : ∀ w, Calls Tryz.prog 53 #[stv x q3, stv x q] w fun e w' => e = .returned (stv x qz) ∧ Gr (fun _ => False) w w' := fun w => by rw [hqz]; exact rrise_c w q3 q
            have hze : Hid (qz.e = q3.e) := by show _ = _; rw [hqz]; rfl
            have hqF : Hid (qz.d = p.d ∧ p.i ≤ qz.i ∧ qz.i ≤ x.ts.length) := by
              have h6 := Hi7.out
              have h7 := hsq.out
              have h9 := hq3.out
              rw [hqz]
              exact ⟨h9.2.1, by show p.i ≤ q3.i; have h1 : s.i ≤ q3.i := h6.2.1; omega, h6.2.2⟩
            rw [← hqz] at Hr3
            clear hqz X1 X2 XW XY0 XU0 XG XR hyb hsX
            have TS : Gr (fun k => k = b + 1 ∨ k = b + 2) X.drew X.drew := Gr.refl _ _
            refine wp_region_L (L := 100) (T := fun w => Gr (fun k => k = b + 1 ∨ k = b + 2) X.drew w) (by kernel_rfl) ?_
            generalize X.drew = wd at TS D1 D2 DT DW DY Gd BRr ⊢
            obtain ⟨⟨d0, d1, d2, d3⟩, _⟩ := four_cells DY
            obtain ⟨⟨u0, u1, u2, u3⟩, _⟩ := four_cells DW
            obtain ⟨⟨k0, k1, k2, k3, k4⟩, _⟩ := five_cells DT
            refine wpAnyN_at (i := 0) (v := (.agg #[.slice x.a x.ts.length x.c, .int .i64 (q3.i : Int), .int .i64 (q3.d : Int), .int .i64 q3.e])) (some 103) rfl rfl (by kernel_rfl) (by kernel_rfl) (by kernel_rfl) (by kernel_rfl) (fun _ _ _ h => h) (Or.inl ⟨by rfl, ?_⟩) TS ?_
            · intro w hSw
              have qq0 := cell_gr d0 hSw (by show ¬ (_ ∨ _); omega)
              have qq1 := cell_gr d1 hSw (by show ¬ (_ ∨ _); omega)
              have qq2 := cell_gr d2 hSw (by show ¬ (_ ∨ _); omega)
              have qq3 := cell_gr d3 hSw (by show ¬ (_ ∨ _); omega)
              have qz := World.block_lt_of_cell? _ _ qq0
              go_simp
              try (intro h; exfalso; omega)
            try simp only [Act.put, List.setIfInBounds_toArray, List.set_cons_zero, List.set_cons_succ]
            refine wpAnyN_at (i := 1) (v := (.agg #[.slice x.a x.ts.length x.c, .int .i64 (q.i : Int), .int .i64 (q.d : Int), .int .i64 q.e])) (some 104) rfl rfl (by kernel_rfl) (by kernel_rfl) (by kernel_rfl) (by kernel_rfl) (fun _ _ _ h => h) (Or.inl ⟨by rfl, ?_⟩) TS ?_
            · intro w hSw
              have qq0 := cell_gr u0 hSw (by show ¬ (_ ∨ _); omega)
              have qq1 := cell_gr u1 hSw (by show ¬ (_ ∨ _); omega)
              have qq2 := cell_gr u2 hSw (by show ¬ (_ ∨ _); omega)
              have qq3 := cell_gr u3 hSw (by show ¬ (_ ∨ _); omega)
              have qz := World.block_lt_of_cell? _ _ qq0
              go_simp
              try (intro h; exfalso; omega)
            try simp only [Act.put, List.setIfInBounds_toArray, List.set_cons_zero, List.set_cons_succ]
            refine wpAnyN_at (i := 3) (v := (.agg #[.int .i64 tk, .string tt, .int .i64 tn, .slice a1 n1 c1', .slice a2 n2 c2'])) (some 106) rfl rfl (by kernel_rfl) (by kernel_rfl) (by kernel_rfl) (by kernel_rfl) (fun _ _ _ h => h) (Or.inl ⟨by rfl, ?_⟩) TS ?_
            · intro w hSw
              have qq0 := cell_gr k0 hSw (by show ¬ (_ ∨ _); omega)
              have qq1 := cell_gr k1 hSw (by show ¬ (_ ∨ _); omega)
              have qq2 := cell_gr k2 hSw (by show ¬ (_ ∨ _); omega)
              have qq3 := cell_gr k3 hSw (by show ¬ (_ ∨ _); omega)
              have qq4 := cell_gr k4 hSw (by show ¬ (_ ∨ _); omega)
              have qz := World.block_lt_of_cell? _ _ qq0
              go_simp
              try (intro h; exfalso; omega)
            try simp only [Act.put, List.setIfInBounds_toArray, List.set_cons_zero, List.set_cons_succ]
            refine wpAnyL_one (i := 2) (by kernel_rfl) rfl (fun K hK => ?_)
            go_simp
            refine (hrise wd).mono ?_
            rintro e w9 ⟨rfl, g9⟩
            refine hK.out _ _ (fun _ => g9.any _) ?_
            clear hK K
            try simp only [Act.put, List.setIfInBounds_toArray, List.set_cons_zero, List.set_cons_succ]
            have F1 := g9.keep D1 (fun e => e)
            have F2 := g9.keep D2 (fun e => e)
            obtain ⟨E1, E2, E3, E4⟩ := end3 (x := x) (q := qz) (T := TT) (k := tk) (s := tt) (n := tn) (bv := .slice a1 n1 c1') (lv := .slice a2 n2 c2') (Gd.out.trans g9) hbW.out F1 F2 (fun he => (BRr.out (hze.out.symm.trans he)).turn (fun z hz hl => ⟨hz, g9.block z hl (fun e => e)⟩))
            obtain ⟨wF, hwF⟩ : ∃ wF, set5 (set4 w9 (b + 1) (.slice x.a x.ts.length x.c) (.int .i64 (qz.i : Int)) (.int .i64 (qz.d : Int)) (.int .i64 qz.e)) (b + 2) (.int .i64 tk) (.string tt) (.int .i64 tn) (.slice a1 n1 c1') (.slice a2 n2 c2') = wF := ⟨_, rfl⟩
            rw [hwF] at E1 E2 E3 E4
            replace E1 := Lib.hid E1
            replace E2 := Lib.hid E2
            replace E3 := Lib.hid E3
            replace E4 := Lib.hid E4
            replace hwF := Lib.hid hwF
            obtain ⟨⟨y0, y1, y2, y3⟩, v0, v1, v2, v3⟩ := four_cells F1
            obtain ⟨⟨m0, m1, m2, m3, m4⟩, o0, o1, o2, o3, o4⟩ := five_cells F2
            have hlz : b + 2 < w9.heap.size := (Array.getElem?_eq_some_iff.1 F2).1
            have hlz' : b + 1 < w9.heap.size := by omega
            have TA : Gr (fun k => k = b + 1 ∨ k = b + 2) wd (set4 w9 (b + 1) (.slice x.a x.ts.length x.c) (.int .i64 (qz.i : Int)) (.int .i64 (qz.d : Int)) (.int .i64 qz.e)) := (g9.any _).trans' (set4_gr w9 (b + 1) _ _ _ _) (fun _ _ e => .inl e)
            have TB : Gr (fun k => k = b + 1 ∨ k = b + 2) wd (set5 (set4 w9 (b + 1) (.slice x.a x.ts.length x.c) (.int .i64 (qz.i : Int)) (.int .i64 (qz.d : Int)) (.int .i64 qz.e)) (b + 2) (.int .i64 tk) (.string tt) (.int .i64 tn) (.slice a1 n1 c1') (.slice a2 n2 c2')) := TA.trans' (set5_gr _ (b + 2) _ _ _ _ _) (fun _ _ e => .inr e)
            refine wpAnyL_one (i := 4) (by kernel_rfl) rfl (fun K hK => ?_)
            go_simp
            refine hK.out _ _ (fun _ => TA) ?_
            clear hK K
            try simp only [Act.put, List.setIfInBounds_toArray, List.set_cons_zero, List.set_cons_succ]
            refine wpAnyL_one (i := 5) (by kernel_rfl) rfl (fun K hK => ?_)
            go_simp
            refine hK.out _ _ (fun _ => TB) ?_
            clear hK K
            try simp only [Act.put, List.setIfInBounds_toArray, List.set_cons_zero, List.set_cons_succ]
            refine wpAnyL_done (by kernel_rfl) ?_ _
            refine NoPanic.normal ?_
            clear TS TA TB
            go_wp2_with fail
            rw [Hr3.out]
            rw [show ((((((((w9.setCell ⟨b + 1, 0, none⟩ (.slice x.a x.ts.length x.c)).setCell ⟨b + 1, 1, none⟩ (.int .i64 (qz.i : Int))).setCell ⟨b + 1, 2, none⟩ (.int .i64 (qz.d : Int))).setCell ⟨b + 1, 3, none⟩ (.int .i64 qz.e)).setCell ⟨b + 1 + 1, 0, none⟩ (.int .i64 tk)).setCell ⟨b + 1 + 1, 1, none⟩ (.string tt)).setCell ⟨b + 1 + 1, 2, none⟩ (.int .i64 tn)).setCell ⟨b + 1 + 1, 3, none⟩ (.slice a1 n1 c1')).setCell ⟨b + 1 + 1, 4, none⟩ (.slice a2 n2 c2') = wF from hwF.out]
            clear y0 y1 y2 y3 v0 v1 v2 v3 m0 m1 m2 m3 m4 o0 o1 o2 o3 o4
            have E1' := E1.out
            have E2' : wF.heap[b + 1 + 1]? = some (.cells #[.int .i64 tk, .string tt, .int .i64 tn, .slice a1 n1 c1', .slice a2 n2 c2'] 30 (0, 0)) := E2.out
            obtain ⟨⟨t0, t1, t2, t3⟩, _⟩ := four_cells E1'
            obtain ⟨⟨s0, s1, s2, s3, s4⟩, _⟩ := five_cells E2'
            refine bodyPost_ret (v := .tuple #[stv x qz, trv (tk) (tt) (tn) (.slice a1 n1 c1') (.slice a2 n2 c2')]) (by simp [results, Tryz.results84, go_sem, t0, t1, t2, t3, s0, s1, s2, s3, s4]) rfl ⟨tk, tt, tn, a1, n1, c1', a2, n2, c2', rfl, E3.out, hqF.out, E4.out⟩
      · have hdi : decide ((i : Int) < 5) = false := by simp; omega
        obtain rfl : i = 5 := by omega
        have Hr3 : Hid (r = (tr0, failV 160 p)) := by
          show r = _
          rw [hR.out]
          rfl
        have C0 := hG.out.keep B0.out (fun e => e)
        have C1 := Lib.hid (hG.out.keep B1.out (fun e => e))
        have C2 := Lib.hid (hG.out.keep B2.out (fun e => e))
        have CG := Lib.hid (BG.out.trans hG.out)
        obtain ⟨⟨c0, c1, c2, c3⟩, f0, f1, f2, f3⟩ := four_cells C0
        have hbl : b < wr.heap.size := (Array.getElem?_eq_some_iff.1 C0).1
        have hbad := Lib.hid (rbad_c (x := x) wr p 160)
        obtain ⟨s, hs⟩ : ∃ s, s = failV 160 p := ⟨_, rfl⟩
        have hF : Hid (s.d = p.d ∧ p.i ≤ s.i ∧ s.i ≤ x.ts.length ∧ s.e ≠ 0) := by
          have h1 := failV_same 160 p
          have h2 := Hi0.out
          rw [hs]
          refine ⟨h1.2, by omega, by omega, ?_⟩
          unfold failV
          by_cases he : p.e = 0
          · rw [if_pos he]; show (160 : Int) ≠ 0; decide
          · rw [if_neg he]; exact he
        rw [← hs] at hbad Hr3
        clear hs C0 hR B0 B1 B2 BO BG BR hi
        go_wp2_with fail
        refine hbad.out.mono ?_
        rintro e w5 ⟨rfl, g5⟩
        have D1 := g5.keep C1.out (fun e => e)
        have D2 := g5.keep C2.out (fun e => e)
        obtain ⟨E1, E2, E3, E4⟩ := end3 (x := x) (q := s) (T := tr0) (k := 0) (s := e0) (n := 0) (bv := nl) (lv := nl) (CG.out.trans g5) hbW.out D1 D2 (fun he => absurd he hF.out.2.2.2)
        obtain ⟨wF, hwF⟩ : ∃ wF, set5 (set4 w5 (b + 1) (.slice x.a x.ts.length x.c) (.int .i64 (s.i : Int)) (.int .i64 (s.d : Int)) (.int .i64 s.e)) (b + 2) (.int .i64 0) (.string e0) (.int .i64 0) (nl) (nl) = wF := ⟨_, rfl⟩
        rw [hwF] at E1 E2 E3 E4
        replace E1 := Lib.hid E1
        replace E2 := Lib.hid E2
        replace E3 := Lib.hid E3
        replace E4 := Lib.hid E4
        replace hwF := Lib.hid hwF
        obtain ⟨⟨y0, y1, y2, y3⟩, v0, v1, v2, v3⟩ := four_cells D1
        obtain ⟨⟨m0, m1, m2, m3, m4⟩, o0, o1, o2, o3, o4⟩ := five_cells D2
        have hlz : b + 2 < w5.heap.size := (Array.getElem?_eq_some_iff.1 D2).1
        have hlz' : b + 1 < w5.heap.size := by omega
        clear c0 c1 c2 c3 f0 f1 f2 f3 D1 D2 C1 C2 CG hbad g5
        go_wp2_with fail
        rw [Hr3.out]
        rw [show ((((((((w5.setCell ⟨b + 1, 0, none⟩ (.slice x.a x.ts.length x.c)).setCell ⟨b + 1, 1, none⟩ (.int .i64 (s.i : Int))).setCell ⟨b + 1, 2, none⟩ (.int .i64 (s.d : Int))).setCell ⟨b + 1, 3, none⟩ (.int .i64 s.e)).setCell ⟨b + 1 + 1, 0, none⟩ (.int .i64 0)).setCell ⟨b + 1 + 1, 1, none⟩ (.string e0)).setCell ⟨b + 1 + 1, 2, none⟩ (.int .i64 0)).setCell ⟨b + 1 + 1, 3, none⟩ (nl)).setCell ⟨b + 1 + 1, 4, none⟩ (nl) = wF from hwF.out]
        clear y0 y1 y2 y3 v0 v1 v2 v3 m0 m1 m2 m3 m4 o0 o1 o2 o3 o4
        have E1' := E1.out
        have E2' : wF.heap[b + 1 + 1]? = some (.cells #[.int .i64 0, .string e0, .int .i64 0, nl, nl] 30 (0, 0)) := E2.out
        obtain ⟨⟨t0, t1, t2, t3⟩, _⟩ := four_cells E1'
        obtain ⟨⟨s0, s1, s2, s3, s4⟩, _⟩ := five_cells E2'
        refine bodyPost_ret (v := .tuple #[stv x s, trv (0) (e0) (0) (nl) (nl)]) (by simp [results, Tryz.results84, go_sem, t0, t1, t2, t3, s0, s1, s2, s3, s4]) rfl ⟨0, e0, 0, none, 0, 0, none, 0, 0, rfl, E3.out, ⟨hF.out.1, hF.out.2.1, hF.out.2.2.1⟩, E4.out⟩
end Go.Proofs.YtggkjkkbkpnkiaaGreatDoor
