/-
  Carried over from another seat of ours (GD).
-/
import Derived.Test.YtggkjkkbkpnkiaaGreatDoorGC
set_option linter.unusedVariables false
set_option linter.unusedSimpArgs false
namespace Go.Proofs.YtggkjkkbkpnkiaaGreatDoor
open Go.RowKit Go.Maps
variable {x : Kx} {W W' : World} {pb : Nat} {p p' : Ps}

theorem failV_same (c : Int) (p : Ps) : (failV c p).i = p.i ∧ (failV c p).d = p.d := by
  unfold failV; split <;> exact ⟨rfl, rfl⟩
theorem wantV_ge (ts : List Tn) (s : ByteArray) (p : Ps) : p.i ≤ (wantV ts s p).i ∧ (wantV ts s p).d = p.d := by
  unfold wantV; split
  · exact ⟨Nat.le_succ _, rfl⟩
  · have := failV_same 160 p; exact ⟨by omega, this.2⟩
theorem nameV_ge (ts : List Tn) (k : Int) (p : Ps) : p.i ≤ (nameV ts k p).2.i ∧ (nameV ts k p).2.d = p.d := by
  unfold nameV; split
  · exact ⟨Nat.le_succ _, rfl⟩
  · have := failV_same 160 p; exact ⟨by show p.i ≤ (failV 160 p).i; omega, this.2⟩
theorem rep0 (A : Nat → Prop) (W : World) : Rep A W tr0 tr0v := ⟨nl, nl, [], rfl, .inl ⟨rfl, _, _, rfl⟩, .inl ⟨rfl, _, _, rfl⟩, rfl⟩
abbrev zc : Array Value := #[.int .i64 0, .string e0, .int .i64 0, nl, nl]
/-- A tree is laid into the result's block. -/
theorem fin_tree {wN : World} {b : Nat} {z0 z1 z2 z3 z4 : Value} {T : Tr} {k : Int} {s : ByteArray} {n : Int} {bv lv : Value} (hb : wN.heap[b]? = some (.cells #[z0, z1, z2, z3, z4] 30 (0, 0))) (rep : Rep (fun z => b + 1 ≤ z) wN T (trv k s n bv lv)) (hP : Pz x wN pb p') (hbp : pb < b) (g : Gr (fun k => k = pb) W wN) (hW : W.heap.size = b) :
    (set5 wN b (.int .i64 k) (.string s) (.int .i64 n) bv lv).heap[b]? = some (.cells #[.int .i64 k, .string s, .int .i64 n, bv, lv] 30 (0, 0)) ∧ Rep (fun z => W.heap.size ≤ z) (set5 wN b (.int .i64 k) (.string s) (.int .i64 n) bv lv) T (trv k s n bv lv) ∧
      Pz x (set5 wN b (.int .i64 k) (.string s) (.int .i64 n) bv lv) pb p' ∧ Gr (fun k => k = pb) W (set5 wN b (.int .i64 k) (.string s) (.int .i64 n) bv lv) := by
  have gs := set5_gr wN b (.int .i64 k) (.string s) (.int .i64 n) bv lv
  exact ⟨set5_heap hb _ _ _ _ _, (rep.gr gs (fun k hk e => by omega)).mono (by omega), hP.gr gs (fun k hk e => by omega), g.trans' gs (fun k hk e => by omega)⟩
abbrev cma : ByteArray := ⟨#[44]⟩
def uptoV (ts : List Tn) (en : ByteArray) (g : Rule) (p : Ps) : List Tr × Ps :=
  if isV ts p en = true then ([], wantV ts en p) else ((sevV ts cma g p).1, wantV ts en (sevV ts cma g p).2)
set_option maxRecDepth 100000 in
set_option maxHeartbeats 1600000 in
theorem upTo_c (n d : Nat) (g : Rule) (hg : RuleOk x n d g) (en : ByteArray) (h : Pz x W pb p) (hd : p.d = d) :
    Calls Tryz.prog 36 #[pt pb, .string en, .func (.func n) #[pt pb] #[]] W fun e w' => EndL x W pb p e w' (uptoV x.ts en g p) := by
  have hb := h.lt
  have hk := is_c h en
  by_cases hs : isV x.ts p en = true
  · rw [uptoV, if_pos hs]
    rw [hs] at hk
    have hq := wantV_ge x.ts en p
    go_enter Tryz.func36, Tryz.ntmps36
    go_wp2_with fail
    refine hk.mono ?_
    rintro e w1 ⟨rfl, g1⟩
    have h1 := h.g0 g1
    go_wp2_with fail
    refine (want_c h1 en).mono ?_
    rintro e w2 ⟨rfl, h2, g2⟩
    go_wp2_with fail
    go_ret
    exact ⟨_, rfl, Lr.nil _ (Nat.le_trans g1.size g2.size), h2, ⟨hq.2, hq.1, by simp⟩, (g1.any _).trans g2⟩
  · have hs' : isV x.ts p en = false := by simpa using hs
    rw [uptoV, if_neg hs]
    rw [hs'] at hk
    have hq := wantV_ge x.ts en (sevV x.ts cma g p).2
    clear hs
    go_enter Tryz.func36, Tryz.ntmps36
    go_wp2_with fail
    refine hk.mono ?_
    rintro e w1 ⟨rfl, g1⟩
    have h1 := h.g0 g1
    go_wp2_with fail
    refine (several_c n d g hg cma h1 hd).mono ?_
    rintro e w2 ⟨v, rfl, L2, h2, hi2, g2⟩
    obtain ⟨sa, sc, rfl⟩ := L2.sv
    go_wp2_with fail
    refine (want_c h2 en).mono ?_
    rintro e w3 ⟨rfl, h3, g3⟩
    have hs1 := g1.size
    have L3 := (L2.mono g1.size).gr g3 (fun k hk e => by omega)
    go_wp2_with fail
    go_ret
    exact ⟨_, rfl, L3, h3, ⟨hq.2.trans hi2.1, Nat.le_trans hi2.2.1 hq.1, Nat.le_trans hi2.2.2 (Nat.succ_le_succ hq.1)⟩, ((g1.any _).trans g2).trans g3⟩

def varV (ts : List Tn) (p : Ps) : Tr × Ps := (.mk 3 (nameV ts 3 p).1 0 [] [], (nameV ts 3 p).2)
set_option maxRecDepth 100000 in
set_option maxHeartbeats 1600000 in
theorem gvar_c (d : Nat) : RuleOk x 37 d (varV x.ts) := by
  refine ⟨ent_of Tryz.func37 (by kernel_rfl) rfl, fun W pb p h hd => ?_⟩
  have hb := h.lt
  have hq := nameV_ge x.ts 3 p
  have h0 := h.g0 (Gr.alloc W (.cells zc 30) _)
  have hb0 := heap_alloc_new W (.cells zc 30)
  have g0 : Gr (fun _ => False) W (W.alloc (.cells zc 30)) := Gr.alloc _ _ _
  have hz0 : (W.alloc (.cells zc 30)).heap.size = W.heap.size + 1 := by simp
  go_enter Tryz.func37, Tryz.ntmps37
  go_wp2_with fail
  generalize W.alloc (.cells zc 30) = W0 at h0 hb0 g0 hz0 ⊢
  obtain ⟨b, hbb⟩ : ∃ b, W.heap.size = b := ⟨_, rfl⟩
  have hbp : pb < b := by omega
  rw [hbb] at hb0 hz0 ⊢
  refine (gname_c h0 3 (by decide)).mono ?_
  rintro e w1 ⟨rfl, h1, g1⟩
  go_wp2_with fail
  refine (node_c w1 3 _ none 0 0).mono ?_
  rintro e w2 ⟨rfl, g2⟩
  have hb2 := g2.keep (g1.keep hb0 (by omega)) (fun e => e)
  obtain ⟨⟨m0, m1, m2, m3, m4⟩, f0, f1, f2, f3, f4⟩ := five_cells hb2
  have hbl := h1.lt
  go_wp2_with fail
  have gN : Gr (fun k => k = pb) W w2 := ((g0.any _).trans g1).trans (g2.any _)
  have rep : Rep (fun z => b + 1 ≤ z) w2 (.mk 3 (nameV x.ts 3 p).1 0 [] []) (trv 3 (nameV x.ts 3 p).1 0 nl nl) := ⟨nl, nl, [], rfl, .inl ⟨rfl, _, _, rfl⟩, .inl ⟨rfl, _, _, rfl⟩, rfl⟩
  obtain ⟨hf, r1, r2, r3⟩ := fin_tree hb2 rep (h1.g0 g2) hbp gN hbb
  clear m0 m1 m2 m3 m4
  obtain ⟨⟨m0, m1, m2, m3, m4⟩, _⟩ := five_cells hf
  exact bodyPost_ret (v := trv 3 (nameV x.ts 3 p).1 0 nl nl) (by simp [results, Tryz.results37, go_sem, m0, m1, m2, m3, m4]) rfl ⟨_, rfl, r1, r2, ⟨hq.2, hq.1⟩, r3⟩

abbrev arw : ByteArray := ⟨#[45, 62]⟩
def arrowV (ts : List Tn) (ex : Rule) (p : Ps) : Tr × Ps := (.mk 16 e0 0 [] (sevV ts cma ex (wantV ts arw p)).1, (sevV ts cma ex (wantV ts arw p)).2)
set_option maxRecDepth 100000 in
set_option maxHeartbeats 1600000 in
theorem arrow_c (d : Nat) (ex : Rule) (hx : RuleOk x 50 d ex) : RuleOk x 38 d (arrowV x.ts ex) := by
  refine ⟨ent_of Tryz.func38 (by kernel_rfl) rfl, fun W pb p h hd => ?_⟩
  have hq := wantV_ge x.ts arw p
  have hb := h.lt
  have h0 := h.g0 (Gr.alloc W (.cells zc 30) _)
  have hb0 := heap_alloc_new W (.cells zc 30)
  have g0 : Gr (fun _ => False) W (W.alloc (.cells zc 30)) := Gr.alloc _ _ _
  have hz0 : (W.alloc (.cells zc 30)).heap.size = W.heap.size + 1 := by simp
  go_enter Tryz.func38, Tryz.ntmps38
  go_wp2_with fail
  generalize W.alloc (.cells zc 30) = W0 at h0 hb0 g0 hz0 ⊢
  obtain ⟨b, hbb⟩ : ∃ b, W.heap.size = b := ⟨_, rfl⟩
  have hbp : pb < b := by omega
  rw [hbb] at hb0 hz0 ⊢
  refine (want_c h0 arw).mono ?_
  rintro e w1 ⟨rfl, h1, g1⟩
  go_wp2_with fail
  refine (several_c 50 d ex hx cma h1 (hq.2.trans hd)).mono ?_
  rintro e w2 ⟨v, rfl, L2, h2, hi2, g2⟩
  obtain ⟨sa, sc, rfl⟩ := L2.sv
  go_wp2_with fail
  refine (node_c w2 16 e0 sa _ sc).mono ?_
  rintro e w3 ⟨rfl, g3⟩
  have hbN := g3.keep (g2.keep (g1.keep hb0 (by omega)) (by omega)) (fun e => e)
  obtain ⟨⟨m0, m1, m2, m3, m4⟩, f0, f1, f2, f3, f4⟩ := five_cells hbN
  have hs1 := g1.size
  have hbl := h2.lt
  go_wp2_with fail
  have gN : Gr (fun k => k = pb) W w3 := (((g0.any _).trans g1).trans g2).trans (g3.any _)
  have rep := ((L2.mono (base' := b + 1) (by omega)).g0 g3).tree 16 e0
  have hN := h2.g0 g3
  obtain ⟨hf, r1, r2, r3⟩ := fin_tree hbN rep hN hbp gN hbb
  clear m0 m1 m2 m3 m4
  obtain ⟨⟨m0, m1, m2, m3, m4⟩, _⟩ := five_cells hf
  exact bodyPost_ret (v := trv 16 e0 0 nl (.slice sa _ sc)) (by simp [results, Tryz.results38, go_sem, m0, m1, m2, m3, m4]) rfl ⟨_, rfl, r1, r2, ⟨hi2.1.trans hq.2, Nat.le_trans hq.1 hi2.2.1⟩, r3⟩

def Ps.deep (p : Ps) : Ps := { i := p.i + 1, d := p.d + 1, e := p.e }
def Ps.back (p : Ps) (d : Nat) : Ps := { p with d := d }
def deeperV (g : Rule) (p : Ps) : Tr × Ps := if p.d = 40 then (tr0, failV 161 p) else ((g p.deep).1, (g p.deep).2.back p.d)
set_option maxRecDepth 100000 in
set_option maxHeartbeats 1600000 in
theorem deeper_c (n : Nat) (g : Rule) (hE : Ent n) (h : Pz x W pb p) (he : p.e = 0) (hl : p.i < x.ts.length) (hg : ∀ W', Pz x W' pb p.deep → Gr (fun k => k = pb) W W' → Calls Tryz.prog n #[pt pb] W' fun e w' => EndR x W' pb p.deep e w' (g p.deep)) :
    Calls Tryz.prog 61 #[pt pb, .func (.func n) #[pt pb] #[]] W fun e w' => EndR x W pb p e w' (deeperV g p) := by
  have hi2 : (p.i : Int) ≤ 100000 := by have := h.hm; omega
  have hd2 : (p.d : Int) ≤ 40 := by have := h.hd; omega
  have hN0 := h.hN
  by_cases hd : p.d = 40
  · rw [deeperV, if_pos hd]
    have hq := failV_same 161 p
    have q : ((p.d : Int) == 40) = true := by simp; omega
    clear hg
    have hb := h.lt
    have h0 := h.g0 (Gr.alloc W (.cells zc 30) _)
    have hb0 := heap_alloc_new W (.cells zc 30)
    have g0 : Gr (fun _ => False) W (W.alloc (.cells zc 30)) := Gr.alloc _ _ _
    have hz0 : (W.alloc (.cells zc 30)).heap.size = W.heap.size + 1 := by simp
    obtain ⟨⟨c0, c1, c2, c3⟩, k0, k1, k2, k3⟩ := h.facts
    go_enter Tryz.func61, Tryz.ntmps61
    go_wp2_with fail
    generalize W.alloc (.cells zc 30) = W0 at h0 hb0 g0 hz0 ⊢
    obtain ⟨b, hbb⟩ : ∃ b, W.heap.size = b := ⟨_, rfl⟩
    have hbp : pb < b := by omega
    rw [hbb] at hb0 hz0 ⊢
    obtain ⟨⟨m0, m1, m2, m3, m4⟩, f0, f1, f2, f3, f4⟩ := five_cells hb0
    refine (fail_c h0 161 (by decide)).mono ?_
    rintro e w1 ⟨rfl, h1, g1⟩
    have hbN := g1.keep hb0 (by omega)
    clear m0 m1 m2 m3 m4 f0 f1 f2 f3 f4
    obtain ⟨⟨m0, m1, m2, m3, m4⟩, f0, f1, f2, f3, f4⟩ := five_cells hbN
    have hbl := h1.lt
    go_wp2_with fail
    have gN : Gr (fun k => k = pb) W w1 := (g0.any _).trans g1
    have rep : Rep (fun z => b + 1 ≤ z) w1 tr0 tr0v := rep0 _ _
    have hN := h1
    obtain ⟨hf, r1, r2, r3⟩ := fin_tree hbN rep hN hbp gN hbb
    clear m0 m1 m2 m3 m4
    obtain ⟨⟨m0, m1, m2, m3, m4⟩, _⟩ := five_cells hf
    exact bodyPost_ret (v := tr0v) (by simp [results, Tryz.results61, go_sem, m0, m1, m2, m3, m4]) rfl ⟨_, rfl, r1, r2, ⟨hq.2, by show p.i ≤ (failV 161 p).i; omega⟩, r3⟩
  · rw [deeperV, if_neg hd]
    have q : ((p.d : Int) == 40) = false := by simp; omega
    have hd3 : (p.d : Int) < 40 := by omega
    have hb := h.lt
    obtain ⟨⟨c0, c1, c2, c3⟩, k0, k1, k2, k3⟩ := h.facts
    have hnb : W.heap.size ≠ pb := by omega
    have hA : (W.setCell ⟨pb, 1, none⟩ (.int .i64 ((p.i : Int) + 1))).heap[pb]? = some (.cells #[.slice x.a (x.cut p) x.c, .int .i64 ((p.i : Int) + 1), .int .i64 (p.d : Int), .int .i64 p.e] 42 (0, 0)) := heap_setCell_same W pb 1 _ 42 _ h.blk
    have hB : ((W.setCell ⟨pb, 1, none⟩ (.int .i64 ((p.i : Int) + 1))).setCell ⟨pb, 2, none⟩ (.int .i64 ((p.d : Int) + 1))).heap[pb]? = some (.cells #[.slice x.a (x.cut p) x.c, .int .i64 ((p.i : Int) + 1), .int .i64 ((p.d : Int) + 1), .int .i64 p.e] 42 (0, 0)) := heap_setCell_same _ pb 2 _ 42 _ hA
    have gB : Gr (fun k => k = pb) W ((W.setCell ⟨pb, 1, none⟩ (.int .i64 ((p.i : Int) + 1))).setCell ⟨pb, 2, none⟩ (.int .i64 ((p.d : Int) + 1))) := (Gr.set (S := fun k => k = pb) W ⟨pb, 1, none⟩ _ rfl).trans (Gr.set _ _ _ rfl)
    have hsB : ((W.setCell ⟨pb, 1, none⟩ (.int .i64 ((p.i : Int) + 1))).setCell ⟨pb, 2, none⟩ (.int .i64 ((p.d : Int) + 1))).heap.size = W.heap.size := by simp
    go_enter Tryz.func61, Tryz.ntmps61
    go_wp2_with fail
    rw [hE, Oper.upon_enter]
    generalize (W.setCell ⟨pb, 1, none⟩ (.int .i64 ((p.i : Int) + 1))).setCell ⟨pb, 2, none⟩ (.int .i64 ((p.d : Int) + 1)) = WB at hB gB hsB ⊢
    have hPB : Pz x WB pb p.deep := h.upd gB (fun k hk e => by omega) (by rw [Kx.cut]; simpa [Kx.cut, he, Ps.deep] using hB) (by show p.i + 1 ≤ _; omega) (by show p.d + 1 ≤ 40; omega)
    have h0 := hPB.g0 (Gr.alloc WB (.cells zc 30) _)
    have hb0 := heap_alloc_new WB (.cells zc 30)
    have g0 : Gr (fun _ => False) WB (WB.alloc (.cells zc 30)) := Gr.alloc _ _ _
    have hz0 : (WB.alloc (.cells zc 30)).heap.size = WB.heap.size + 1 := by simp
    rw [hsB] at hb0 hz0
    generalize WB.alloc (.cells zc 30) = W0 at h0 hb0 g0 hz0 ⊢
    obtain ⟨b, hbb⟩ : ∃ b, W.heap.size = b := ⟨_, rfl⟩
    have hbp : pb < b := by omega
    rw [hbb] at hb0 hz0 ⊢
    refine (hg W0 h0 (gB.trans (g0.any _))).mono ?_
    rintro e w1 ⟨v, rfl, rep1, h1, ⟨hd1, hi1⟩, g1⟩
    have hd4 : (g p.deep).2.d = p.d + 1 := hd1
    have hi4 : p.i + 1 ≤ (g p.deep).2.i := hi1
    obtain ⟨tk, tt, tn, a1, n1, c1', a2, n2, c2', rfl⟩ := rep1.agg
    clear c0 c1 c2 c3 k0 k1 k2 k3
    obtain ⟨⟨c0, c1, c2, c3⟩, k0, k1, k2, k3⟩ := h1.facts
    have hbl := h1.lt
    have hb1 := g1.keep hb0 (by omega)
    obtain ⟨⟨m0, m1, m2, m3, m4⟩, f0, f1, f2, f3, f4⟩ := five_cells hb1
    have hs1 := g1.size
    have hbs1 : b < w1.heap.size := by omega
    rw [hd4, Int.natCast_add] at c2
    have hn1 : w1.heap.size ≠ pb := by omega
    have hn2 : w1.heap.size ≠ b := by omega
    have hn3 : pb ≠ b := by omega
    go_wp2_with fail
    clear m0 m1 m2 m3 m4 f0 f1 f2 f3 f4 c0 c1 c2 c3 k0 k1 k2 k3
    have gC : Gr (fun k => k = pb) w1 (w1.setCell ⟨pb, 2, none⟩ (.int .i64 (p.d : Int))) := Gr.set _ _ _ rfl
    have hC : Pz x (w1.setCell ⟨pb, 2, none⟩ (.int .i64 (p.d : Int))) pb ((g p.deep).2.back p.d) := h1.upd gC (fun k hk e => by omega) (heap_setCell_same w1 pb 2 _ 42 _ h1.blk) h1.hi h.hd
    generalize w1.setCell ⟨pb, 2, none⟩ (.int .i64 (p.d : Int)) = w2 at gC hC ⊢
    have hbN := gC.keep hb1 (by omega)
    have gN : Gr (fun k => k = pb) W w2 := ((gB.trans (g0.any _)).trans g1).trans gC
    have rep : Rep (fun z => b + 1 ≤ z) w2 _ _ := (rep1.mono (base' := b + 1) (by omega)).gr gC (fun k hk e => by omega)
    obtain ⟨hf, r1, r2, r3⟩ := fin_tree hbN rep hC hbp gN hbb
    have gF : Gr (fun _ => False) (set5 w2 b (.int .i64 tk) (.string tt) (.int .i64 tn) (.slice a1 n1 c1') (.slice a2 n2 c2')) ((set5 w2 b (.int .i64 tk) (.string tt) (.int .i64 tn) (.slice a1 n1 c1') (.slice a2 n2 c2')).alloc (.cells #[.int .i64 tk, .string tt, .int .i64 tn, .slice a1 n1 c1', .slice a2 n2 c2'] 30)) := Gr.alloc _ _ _
    obtain ⟨⟨m0, m1, m2, m3, m4⟩, _⟩ := five_cells (gF.keep hf (fun e => e))
    exact bodyPost_ret (v := trv tk tt tn (.slice a1 n1 c1') (.slice a2 n2 c2')) (by simp [results, Tryz.results61, go_sem, m0, m1, m2, m3, m4]) rfl ⟨_, rfl, r1.g0 gF, r2.g0 gF, ⟨rfl, by show p.i ≤ (g p.deep).2.i; omega⟩, r3.trans (gF.any _)⟩
set_option maxRecDepth 100000 in
set_option maxHeartbeats 1600000 in
theorem deeper2_c (n : Nat) (g : Rule) (hE : Ent n) (h : Pz x W pb p) (he : p.e = 0) (hl : p.i < x.ts.length) (u1 u2 : Nat) (hg : ∀ W', Pz x W' pb p.deep → Gr (fun k => k = pb) W W' → Calls Tryz.prog n #[pt u1, pt u2] W' fun e w' => EndR x W' pb p.deep e w' (g p.deep)) :
    Calls Tryz.prog 61 #[pt pb, .func (.func n) #[] #[pt u1, pt u2]] W fun e w' => EndR x W pb p e w' (deeperV g p) := by
  have hi2 : (p.i : Int) ≤ 100000 := by have := h.hm; omega
  have hd2 : (p.d : Int) ≤ 40 := by have := h.hd; omega
  have hN0 := h.hN
  by_cases hd : p.d = 40
  · rw [deeperV, if_pos hd]
    have hq := failV_same 161 p
    have q : ((p.d : Int) == 40) = true := by simp; omega
    clear hg
    have hb := h.lt
    have h0 := h.g0 (Gr.alloc W (.cells zc 30) _)
    have hb0 := heap_alloc_new W (.cells zc 30)
    have g0 : Gr (fun _ => False) W (W.alloc (.cells zc 30)) := Gr.alloc _ _ _
    have hz0 : (W.alloc (.cells zc 30)).heap.size = W.heap.size + 1 := by simp
    obtain ⟨⟨c0, c1, c2, c3⟩, k0, k1, k2, k3⟩ := h.facts
    go_enter Tryz.func61, Tryz.ntmps61
    go_wp2_with fail
    generalize W.alloc (.cells zc 30) = W0 at h0 hb0 g0 hz0 ⊢
    obtain ⟨b, hbb⟩ : ∃ b, W.heap.size = b := ⟨_, rfl⟩
    have hbp : pb < b := by omega
    rw [hbb] at hb0 hz0 ⊢
    obtain ⟨⟨m0, m1, m2, m3, m4⟩, f0, f1, f2, f3, f4⟩ := five_cells hb0
    refine (fail_c h0 161 (by decide)).mono ?_
    rintro e w1 ⟨rfl, h1, g1⟩
    have hbN := g1.keep hb0 (by omega)
    clear m0 m1 m2 m3 m4 f0 f1 f2 f3 f4
    obtain ⟨⟨m0, m1, m2, m3, m4⟩, f0, f1, f2, f3, f4⟩ := five_cells hbN
    have hbl := h1.lt
    go_wp2_with fail
    have gN : Gr (fun k => k = pb) W w1 := (g0.any _).trans g1
    have rep : Rep (fun z => b + 1 ≤ z) w1 tr0 tr0v := rep0 _ _
    have hN := h1
    obtain ⟨hf, r1, r2, r3⟩ := fin_tree hbN rep hN hbp gN hbb
    clear m0 m1 m2 m3 m4
    obtain ⟨⟨m0, m1, m2, m3, m4⟩, _⟩ := five_cells hf
    exact bodyPost_ret (v := tr0v) (by simp [results, Tryz.results61, go_sem, m0, m1, m2, m3, m4]) rfl ⟨_, rfl, r1, r2, ⟨hq.2, by show p.i ≤ (failV 161 p).i; omega⟩, r3⟩
  · rw [deeperV, if_neg hd]
    have q : ((p.d : Int) == 40) = false := by simp; omega
    have hd3 : (p.d : Int) < 40 := by omega
    have hb := h.lt
    obtain ⟨⟨c0, c1, c2, c3⟩, k0, k1, k2, k3⟩ := h.facts
    have hnb : W.heap.size ≠ pb := by omega
    have hA : (W.setCell ⟨pb, 1, none⟩ (.int .i64 ((p.i : Int) + 1))).heap[pb]? = some (.cells #[.slice x.a (x.cut p) x.c, .int .i64 ((p.i : Int) + 1), .int .i64 (p.d : Int), .int .i64 p.e] 42 (0, 0)) := heap_setCell_same W pb 1 _ 42 _ h.blk
    have hB : ((W.setCell ⟨pb, 1, none⟩ (.int .i64 ((p.i : Int) + 1))).setCell ⟨pb, 2, none⟩ (.int .i64 ((p.d : Int) + 1))).heap[pb]? = some (.cells #[.slice x.a (x.cut p) x.c, .int .i64 ((p.i : Int) + 1), .int .i64 ((p.d : Int) + 1), .int .i64 p.e] 42 (0, 0)) := heap_setCell_same _ pb 2 _ 42 _ hA
    have gB : Gr (fun k => k = pb) W ((W.setCell ⟨pb, 1, none⟩ (.int .i64 ((p.i : Int) + 1))).setCell ⟨pb, 2, none⟩ (.int .i64 ((p.d : Int) + 1))) := (Gr.set (S := fun k => k = pb) W ⟨pb, 1, none⟩ _ rfl).trans (Gr.set _ _ _ rfl)
    have hsB : ((W.setCell ⟨pb, 1, none⟩ (.int .i64 ((p.i : Int) + 1))).setCell ⟨pb, 2, none⟩ (.int .i64 ((p.d : Int) + 1))).heap.size = W.heap.size := by simp
    go_enter Tryz.func61, Tryz.ntmps61
    go_wp2_with fail
    rw [hE, Oper.upon_enter]
    generalize (W.setCell ⟨pb, 1, none⟩ (.int .i64 ((p.i : Int) + 1))).setCell ⟨pb, 2, none⟩ (.int .i64 ((p.d : Int) + 1)) = WB at hB gB hsB ⊢
    have hPB : Pz x WB pb p.deep := h.upd gB (fun k hk e => by omega) (by rw [Kx.cut]; simpa [Kx.cut, he, Ps.deep] using hB) (by show p.i + 1 ≤ _; omega) (by show p.d + 1 ≤ 40; omega)
    have h0 := hPB.g0 (Gr.alloc WB (.cells zc 30) _)
    have hb0 := heap_alloc_new WB (.cells zc 30)
    have g0 : Gr (fun _ => False) WB (WB.alloc (.cells zc 30)) := Gr.alloc _ _ _
    have hz0 : (WB.alloc (.cells zc 30)).heap.size = WB.heap.size + 1 := by simp
    rw [hsB] at hb0 hz0
    generalize WB.alloc (.cells zc 30) = W0 at h0 hb0 g0 hz0 ⊢
    obtain ⟨b, hbb⟩ : ∃ b, W.heap.size = b := ⟨_, rfl⟩
    have hbp : pb < b := by omega
    rw [hbb] at hb0 hz0 ⊢
    refine (hg W0 h0 (gB.trans (g0.any _))).mono ?_
    rintro e w1 ⟨v, rfl, rep1, h1, ⟨hd1, hi1⟩, g1⟩
    have hd4 : (g p.deep).2.d = p.d + 1 := hd1
    have hi4 : p.i + 1 ≤ (g p.deep).2.i := hi1
    obtain ⟨tk, tt, tn, a1, n1, c1', a2, n2, c2', rfl⟩ := rep1.agg
    clear c0 c1 c2 c3 k0 k1 k2 k3
    obtain ⟨⟨c0, c1, c2, c3⟩, k0, k1, k2, k3⟩ := h1.facts
    have hbl := h1.lt
    have hb1 := g1.keep hb0 (by omega)
    obtain ⟨⟨m0, m1, m2, m3, m4⟩, f0, f1, f2, f3, f4⟩ := five_cells hb1
    have hs1 := g1.size
    have hbs1 : b < w1.heap.size := by omega
    rw [hd4, Int.natCast_add] at c2
    have hn1 : w1.heap.size ≠ pb := by omega
    have hn2 : w1.heap.size ≠ b := by omega
    have hn3 : pb ≠ b := by omega
    go_wp2_with fail
    clear m0 m1 m2 m3 m4 f0 f1 f2 f3 f4 c0 c1 c2 c3 k0 k1 k2 k3
    have gC : Gr (fun k => k = pb) w1 (w1.setCell ⟨pb, 2, none⟩ (.int .i64 (p.d : Int))) := Gr.set _ _ _ rfl
    have hC : Pz x (w1.setCell ⟨pb, 2, none⟩ (.int .i64 (p.d : Int))) pb ((g p.deep).2.back p.d) := h1.upd gC (fun k hk e => by omega) (heap_setCell_same w1 pb 2 _ 42 _ h1.blk) h1.hi h.hd
    generalize w1.setCell ⟨pb, 2, none⟩ (.int .i64 (p.d : Int)) = w2 at gC hC ⊢
    have hbN := gC.keep hb1 (by omega)
    have gN : Gr (fun k => k = pb) W w2 := ((gB.trans (g0.any _)).trans g1).trans gC
    have rep : Rep (fun z => b + 1 ≤ z) w2 _ _ := (rep1.mono (base' := b + 1) (by omega)).gr gC (fun k hk e => by omega)
    obtain ⟨hf, r1, r2, r3⟩ := fin_tree hbN rep hC hbp gN hbb
    have gF : Gr (fun _ => False) (set5 w2 b (.int .i64 tk) (.string tt) (.int .i64 tn) (.slice a1 n1 c1') (.slice a2 n2 c2')) ((set5 w2 b (.int .i64 tk) (.string tt) (.int .i64 tn) (.slice a1 n1 c1') (.slice a2 n2 c2')).alloc (.cells #[.int .i64 tk, .string tt, .int .i64 tn, .slice a1 n1 c1', .slice a2 n2 c2'] 30)) := Gr.alloc _ _ _
    obtain ⟨⟨m0, m1, m2, m3, m4⟩, _⟩ := five_cells (gF.keep hf (fun e => e))
    exact bodyPost_ret (v := trv tk tt tn (.slice a1 n1 c1') (.slice a2 n2 c2')) (by simp [results, Tryz.results61, go_sem, m0, m1, m2, m3, m4]) rfl ⟨_, rfl, r1.g0 gF, r2.g0 gF, ⟨rfl, by show p.i ≤ (g p.deep).2.i; omega⟩, r3.trans (gF.any _)⟩
end Go.Proofs.YtggkjkkbkpnkiaaGreatDoor


