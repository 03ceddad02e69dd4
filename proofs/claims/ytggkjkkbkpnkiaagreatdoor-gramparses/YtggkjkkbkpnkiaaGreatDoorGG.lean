/-
  Carried over from another seat of ours (GG).
-/
import Derived.Test.YtggkjkkbkpnkiaaGreatDoorGF
import Derived.Deep.RegionHeld3
set_option linter.unusedVariables false
set_option linter.unusedSimpArgs false
namespace Go.Proofs.YtggkjkkbkpnkiaaGreatDoor
open Go.RowKit Go.Maps
variable {x : Kx} {W W' : World} {pb : Nat} {p p' : Ps}

theorem fin_tree' {wN : World} {b : Nat} {z0 z1 z2 z3 z4 : Value} {T : Tr} {k : Int} {s : ByteArray} {n : Int} {bv lv : Value} (hb : wN.heap[b]? = some (.cells #[z0, z1, z2, z3, z4] 30 (0, 0))) (rep : Rep (fun z => b + 1 ≤ z) wN T (trv k s n bv lv)) (hP : Pz x wN pb p') (hbp : pb < b) (g : Gr (fun k => k = pb) W wN) (hW : W.heap.size ≤ b) :
    (set5 wN b (.int .i64 k) (.string s) (.int .i64 n) bv lv).heap[b]? = some (.cells #[.int .i64 k, .string s, .int .i64 n, bv, lv] 30 (0, 0)) ∧ Rep (fun z => W.heap.size ≤ z) (set5 wN b (.int .i64 k) (.string s) (.int .i64 n) bv lv) T (trv k s n bv lv) ∧
      Pz x (set5 wN b (.int .i64 k) (.string s) (.int .i64 n) bv lv) pb p' ∧ Gr (fun k => k = pb) W (set5 wN b (.int .i64 k) (.string s) (.int .i64 n) bv lv) := by
  have gs := set5_gr wN b (.int .i64 k) (.string s) (.int .i64 n) bv lv
  exact ⟨set5_heap hb _ _ _ _ _, (rep.gr gs (fun k hk e => by omega)).mono (by omega), hP.gr gs (fun k hk e => by omega), g.trans' gs (fun k hk e => by omega)⟩
def callV (ts : List Tn) (nm : ByteArray) (ex : Rule) (p : Ps) : Tr × Ps := (.mk 11 nm 0 [] (uptoV ts shutR ex p).1, (uptoV ts shutR ex p).2)
/-- Two cells that a closure has caught: a name, the parser. -/
abbrev SC (u1 u2 pb : Nat) (nm : ByteArray) (w : World) : Prop := w.cell? ⟨u1, 0, none⟩ = some (.string nm) ∧ w.cell? ⟨u2, 0, none⟩ = some (pt pb)
theorem cell_gr {S : Nat → Prop} {b o : Nat} {v : Value} (h : W.cell? ⟨b, o, none⟩ = some v) (g : Gr S W W') (hs : ¬ S b) : W'.cell? ⟨b, o, none⟩ = some v := by
  have hl := World.block_lt_of_cell? _ _ h
  simp only [World.cell?] at h ⊢
  rw [g.block b hl hs]; exact h
theorem SC.gr {S : Nat → Prop} {u1 u2 : Nat} {nm : ByteArray} (h : SC u1 u2 pb nm W) (g : Gr S W W') (h1 : ¬ S u1) (h2 : ¬ S u2) : SC u1 u2 pb nm W' := ⟨cell_gr h.1 g h1, cell_gr h.2 g h2⟩
theorem SC.g0 {u1 u2 : Nat} {nm : ByteArray} (h : SC u1 u2 pb nm W) (g : Gr (fun _ => False) W W') : SC u1 u2 pb nm W' := h.gr g (fun e => e) (fun e => e)
set_option maxRecDepth 100000 in
set_option maxHeartbeats 1600000 in
theorem call_c (d : Nat) (ex : Rule) (hx : RuleOk x 50 d ex) (W : World) (pb : Nat) (p : Ps) (h : Pz x W pb p) (hd : p.d = d) (nm : ByteArray) (u1 u2 : Nat) (hu1 : W.cell? ⟨u1, 0, none⟩ = some (.string nm)) (hu2 : W.cell? ⟨u2, 0, none⟩ = some (pt pb)) (hn1 : u1 ≠ pb) (hn2 : u2 ≠ pb) :
    Calls Tryz.prog 94 #[pt u1, pt u2] W fun e w' => EndR x W pb p e w' (callV x.ts nm ex p) := by
  have hul1 := World.block_lt_of_cell? _ _ hu1
  have hul2 := World.block_lt_of_cell? _ _ hu2
  have hb := h.lt
  have h0 := h.g0 (Gr.alloc W (.cells zc 30) _)
  have hb0 := heap_alloc_new W (.cells zc 30)
  have g0 : Gr (fun _ => False) W (W.alloc (.cells zc 30)) := Gr.alloc _ _ _
  have hz0 : (W.alloc (.cells zc 30)).heap.size = W.heap.size + 1 := by simp
  go_enter Tryz.func94, Tryz.ntmps94
  go_wp2_with fail
  generalize W.alloc (.cells zc 30) = W0 at h0 hb0 g0 hz0 ⊢
  obtain ⟨b, hbb⟩ : ∃ b, W.heap.size = b := ⟨_, rfl⟩
  have hbp : pb < b := by omega
  rw [hbb] at hb0 hz0 ⊢
  have s1 : SC u1 u2 pb nm W0.drew := SC.g0 ⟨hu1, hu2⟩ (g0.trans (Gr.drew _ _))
  have hD := h0.g0 (Gr.drew W0 _)
  have hbD : W0.drew.heap[b]? = some (.cells zc 30) := hb0
  have gD : Gr (fun _ => False) W W0.drew := g0.trans (Gr.drew _ _)
  have hzD : W0.drew.heap.size = b + 1 := hz0
  have hc1 := upTo_c (W := W0.drew) 50 d ex hx shutR hD hd
  unfold EndL at hc1
  replace hc1 := Lib.hid hc1
  have hnu1 : b ≠ u1 := by omega
  have hnu2 : b ≠ u2 := by omega
  obtain ⟨c1, c2⟩ := s1
  have s1 : SC u1 u2 pb nm W0.drew := ⟨c1, c2⟩
  go_region_held3 (SC u1 u2 pb nm) (first | (with_reducible assumption) | go_keep)
    (first
      | (go_at_call 36; with_reducible refine hc1.out.mono ?_; rintro e w1 ⟨v, rfl, L1, h1, hi1, g1⟩; obtain ⟨sa, sc, rfl⟩ := L1.sv; have s2 : SC u1 u2 pb nm w1 := SC.gr s1 g1 hn1 hn2; have hb1 := g1.keep hbD (by omega))
      | (go_at_call 18; refine (node_c w1 11 nm sa _ sc).mono ?_; rintro e w2 ⟨rfl, g2⟩; have s3 : SC u1 u2 pb nm w2 := SC.g0 s2 g2; have s4 : SC u1 u2 pb nm (set5 w2 b (.int .i64 11) (.string nm) (.int .i64 0) nl (.slice sa (uptoV x.ts shutR ex p).1.length sc)) := SC.gr s3 (set5_gr w2 b _ _ _ _ _) (Ne.symm hnu1) (Ne.symm hnu2); have hbN := g2.keep hb1 (fun e => e); obtain ⟨⟨m0, m1, m2, m3, m4⟩, f0, f1, f2, f3, f4⟩ := five_cells hbN)
      | fail)
  go_wp2_with fail
  have gN : Gr (fun k => k = pb) W w2 := ((gD.any _).trans g1).trans (g2.any _)
  have rep := ((L1.mono (base' := b + 1) (by omega)).g0 g2).tree 11 nm
  have hN := h1.g0 g2
  obtain ⟨hf, r1, r2, r3⟩ := fin_tree hbN rep hN hbp gN hbb
  clear m0 m1 m2 m3 m4
  obtain ⟨⟨m0, m1, m2, m3, m4⟩, _⟩ := five_cells hf
  exact bodyPost_ret (v := trv 11 nm 0 nl (.slice sa _ sc)) (by simp [results, Tryz.results94, go_sem, m0, m1, m2, m3, m4]) rfl ⟨_, rfl, r1, r2, ⟨hi1.1, hi1.2.1⟩, r3⟩

/-- What the rules that are one deeper do, where one may be deeper. -/
def Sub (x : Kx) (d : Nat) (ex un : Rule) : Prop := d < 40 → RuleOk x 50 (d + 1) ex ∧ RuleOk x 71 (d + 1) un
abbrev opn : ByteArray := ⟨#[40]⟩
def atomV (ts : List Tn) (ex : Rule) (p : Ps) : Tr × Ps := if isV ts (nameV ts 2 p).2 opn = true then deeperV (callV ts (nameV ts 2 p).1 ex) (nameV ts 2 p).2 else (.mk 2 (nameV ts 2 p).1 0 [] [], (nameV ts 2 p).2)
set_option maxRecDepth 100000 in
set_option maxHeartbeats 1600000 in
theorem atom_c (d : Nat) (ex un : Rule) (hsub : Sub x d ex un) : RuleOk x 88 d (atomV x.ts ex) := by
  refine ⟨ent_of Tryz.func88 (by kernel_rfl) rfl, fun W pb p h hd => ?_⟩
  have hq := nameV_ge x.ts 2 p
  have hb := h.lt
  have gX : Gr (fun _ => False) W (W.alloc (.cells #[pt pb] 53)) := Gr.alloc _ _ _
  have hcX := heap_alloc_new W (.cells #[pt pb] 53)
  have hzX : (W.alloc (.cells #[pt pb] 53)).heap.size = W.heap.size + 1 := by simp
  have hnm := fun w hp => gname_c (x := x) (W := w) (pb := pb) (p := p) hp 2 (by decide)
  rw [atomV]
  generalize hNm : nameV x.ts 2 p = nq at hnm hq
  obtain ⟨nm, q⟩ := nq
  replace hq : p.i ≤ q.i ∧ q.d = p.d := hq
  show Calls Tryz.prog 88 #[pt pb] W fun e w' => EndR x W pb p e w' (if isV x.ts q opn = true then deeperV (callV x.ts nm ex) q else (.mk 2 nm 0 [] [], q))
  by_cases hs : isV x.ts q opn = true
  · rw [if_pos hs]
    obtain ⟨hlc, he, hl⟩ := isV_lt hs
    go_enter Tryz.func88, Tryz.ntmps88
    go_wp2_with fail
    generalize hWX : W.alloc (.cells #[pt pb] 53) = WX at gX hcX hzX ⊢
    clear hWX
    have g0 : Gr (fun _ => False) W (WX.alloc (.cells zc 30)) := gX.trans (Gr.alloc _ _ _)
    have hb0 := heap_alloc_new WX (.cells zc 30)
    have hu0 := (Gr.alloc WX (.cells zc 30) (fun _ => False)).keep hcX (fun e => e)
    have hz0 : (WX.alloc (.cells zc 30)).heap.size = W.heap.size + 2 := by simp [hzX]
    rw [hzX] at hb0
    generalize WX.alloc (.cells zc 30) = W0 at g0 hb0 hu0 hz0 ⊢
    obtain ⟨u2, hu2⟩ : ∃ u, W.heap.size = u := ⟨_, rfl⟩
    obtain ⟨b, hbb⟩ : ∃ b, W.heap.size + 1 = b := ⟨_, rfl⟩
    rw [hbb] at hb0 ⊢
    rw [hu2] at hu0 ⊢
    have hbu : u2 < b := by omega
    have hbv : b ≤ u2 + 1 := by omega
    have hbp : pb < u2 := by omega
    refine (hnm _ (h.g0 g0)).mono ?_
    rintro e w1 ⟨rfl, h1, g1⟩
    have hs1 := g1.size
    have hbl := h1.lt
    have G2 : Gr (fun _ => False) w1 (w1.alloc (.cells #[.string nm] 9)) := Gr.alloc _ _ _
    have hl2 := heap_alloc_new w1 (.cells #[.string nm] 9)
    have hk := is_c (h1.g0 G2) opn
    have hb2 := G2.keep (g1.keep hb0 (by omega)) (fun e => e)
    have hu3 := G2.keep (g1.keep hu0 (by omega)) (fun e => e)
    have hz2 : (w1.alloc (.cells #[.string nm] 9)).heap.size = w1.heap.size + 1 := by simp
    have kuX : w1.cell? ⟨u2, 0, none⟩ = some (pt pb) := by have := g1.keep hu0 (by omega); simp [World.cell?, this]
    have hul := World.block_lt_of_cell? _ _ kuX
    go_wp2_with fail
    generalize w1.alloc (.cells #[.string nm] 9) = w2 at G2 hl2 hk hb2 hu3 hz2 ⊢
    rw [hs] at hk
    have h2 := h1.g0 G2
    obtain ⟨u1, hu1⟩ : ∃ u, w1.heap.size = u := ⟨_, rfl⟩
    rw [hu1] at hl2 hz2 ⊢
    refine hk.mono ?_
    rintro e w3 ⟨rfl, g3⟩
    have h3 := h2.g0 g3
    have hb3 := g3.keep hb2 (fun e => e)
    have hu4 := g3.keep hu3 (fun e => e)
    have hn4 := g3.keep hl2 (fun e => e)
    have ku : w3.cell? ⟨u2, 0, none⟩ = some (pt pb) := by simp [World.cell?, hu4]
    have kn : w3.cell? ⟨u1, 0, none⟩ = some (.string nm) := by simp [World.cell?, hn4]
    have hs3 := g3.size
    have G3 : Gr (fun k => k = pb) W w3 := (((g0.any _).trans g1).trans (G2.any _)).trans (g3.any _)
    go_wp2_with fail
    have hdp := deeper2_c (W := w3) (pb := pb) (p := q) 94 (callV x.ts nm ex) (ent_of Tryz.func94 (by kernel_rfl) rfl) h3 he hl u1 u2 (fun W' hP hG => by
      have hd2 : q.d + 1 ≤ 40 := hP.hd
      exact call_c (d + 1) ex (hsub (by omega)).1 W' pb q.deep hP (by show q.d + 1 = d + 1; omega) nm u1 u2 (cell_gr kn hG (by omega)) (cell_gr ku hG (by omega)) (by omega) (by omega))
    refine hdp.mono ?_
    rintro e w4 ⟨v, rfl, rep4, h4, ⟨hd4, hi4⟩, g4⟩
    obtain ⟨tk, tt, tn, a1, n1, c1, a2, n2, c2, rfl⟩ := rep4.agg
    have hbN := g4.keep hb3 (by omega)
    obtain ⟨⟨m0, m1, m2, m3, m4⟩, f0, f1, f2, f3, f4⟩ := five_cells hbN
    go_wp2_with fail
    have gN : Gr (fun k => k = pb) W w4 := G3.trans g4
    have rep := rep4.mono (base' := b + 1) (by omega)
    obtain ⟨hf, r1, r2, r3⟩ := fin_tree' hbN rep h4 (by omega) gN (by omega)
    clear m0 m1 m2 m3 m4
    obtain ⟨⟨m0, m1, m2, m3, m4⟩, _⟩ := five_cells hf
    exact bodyPost_ret (v := trv tk tt tn (.slice a1 n1 c1) (.slice a2 n2 c2)) (by simp [results, Tryz.results88, go_sem, m0, m1, m2, m3, m4]) rfl ⟨_, rfl, r1, r2, ⟨hd4.trans hq.2, Nat.le_trans hq.1 hi4⟩, r3⟩
  · rw [if_neg hs]
    have hs' : isV x.ts q opn = false := by simpa using hs
    clear hs
    go_enter Tryz.func88, Tryz.ntmps88
    go_wp2_with fail
    generalize hWX : W.alloc (.cells #[pt pb] 53) = WX at gX hcX hzX ⊢
    clear hWX
    have g0 : Gr (fun _ => False) W (WX.alloc (.cells zc 30)) := gX.trans (Gr.alloc _ _ _)
    have hb0 := heap_alloc_new WX (.cells zc 30)
    have hu0 := (Gr.alloc WX (.cells zc 30) (fun _ => False)).keep hcX (fun e => e)
    have hz0 : (WX.alloc (.cells zc 30)).heap.size = W.heap.size + 2 := by simp [hzX]
    rw [hzX] at hb0
    generalize WX.alloc (.cells zc 30) = W0 at g0 hb0 hu0 hz0 ⊢
    obtain ⟨u2, hu2⟩ : ∃ u, W.heap.size = u := ⟨_, rfl⟩
    obtain ⟨b, hbb⟩ : ∃ b, W.heap.size + 1 = b := ⟨_, rfl⟩
    rw [hbb] at hb0 ⊢
    rw [hu2] at hu0 ⊢
    have hbu : u2 < b := by omega
    have hbv : b ≤ u2 + 1 := by omega
    have hbp : pb < u2 := by omega
    refine (hnm _ (h.g0 g0)).mono ?_
    rintro e w1 ⟨rfl, h1, g1⟩
    have hs1 := g1.size
    have hbl := h1.lt
    have G2 : Gr (fun _ => False) w1 (w1.alloc (.cells #[.string nm] 9)) := Gr.alloc _ _ _
    have hl2 := heap_alloc_new w1 (.cells #[.string nm] 9)
    have hk := is_c (h1.g0 G2) opn
    have hb2 := G2.keep (g1.keep hb0 (by omega)) (fun e => e)
    have hu3 := G2.keep (g1.keep hu0 (by omega)) (fun e => e)
    have hz2 : (w1.alloc (.cells #[.string nm] 9)).heap.size = w1.heap.size + 1 := by simp
    have kuX : w1.cell? ⟨u2, 0, none⟩ = some (pt pb) := by have := g1.keep hu0 (by omega); simp [World.cell?, this]
    have hul := World.block_lt_of_cell? _ _ kuX
    go_wp2_with fail
    generalize w1.alloc (.cells #[.string nm] 9) = w2 at G2 hl2 hk hb2 hu3 hz2 ⊢
    rw [hs'] at hk
    have h2 := h1.g0 G2
    obtain ⟨u1, hu1⟩ : ∃ u, w1.heap.size = u := ⟨_, rfl⟩
    rw [hu1] at hl2 hz2 ⊢
    refine hk.mono ?_
    rintro e w3 ⟨rfl, g3⟩
    have h3 := h2.g0 g3
    have hb3 := g3.keep hb2 (fun e => e)
    have hu4 := g3.keep hu3 (fun e => e)
    have hn4 := g3.keep hl2 (fun e => e)
    have ku : w3.cell? ⟨u2, 0, none⟩ = some (pt pb) := by simp [World.cell?, hu4]
    have kn : w3.cell? ⟨u1, 0, none⟩ = some (.string nm) := by simp [World.cell?, hn4]
    have hs3 := g3.size
    have G3 : Gr (fun k => k = pb) W w3 := (((g0.any _).trans g1).trans (G2.any _)).trans (g3.any _)
    go_wp2_with fail
    refine (node_c w3 2 nm none 0 0).mono ?_
    rintro e w4 ⟨rfl, g4⟩
    have hbN := g4.keep hb3 (fun e => e)
    obtain ⟨⟨m0, m1, m2, m3, m4⟩, f0, f1, f2, f3, f4⟩ := five_cells hbN
    go_wp2_with fail
    have gN : Gr (fun k => k = pb) W w4 := G3.trans (g4.any _)
    have rep : Rep (fun z => b + 1 ≤ z) w4 (.mk 2 nm 0 [] []) (trv 2 nm 0 nl nl) := ⟨nl, nl, [], rfl, .inl ⟨rfl, _, _, rfl⟩, .inl ⟨rfl, _, _, rfl⟩, rfl⟩
    obtain ⟨hf, r1, r2, r3⟩ := fin_tree' hbN rep (h3.g0 g4) (by omega) gN (by omega)
    clear m0 m1 m2 m3 m4
    obtain ⟨⟨m0, m1, m2, m3, m4⟩, _⟩ := five_cells hf
    exact bodyPost_ret (v := trv 2 nm 0 nl nl) (by simp [results, Tryz.results88, go_sem, m0, m1, m2, m3, m4]) rfl ⟨_, rfl, r1, r2, ⟨hq.2, hq.1⟩, r3⟩
end Go.Proofs.YtggkjkkbkpnkiaaGreatDoor


