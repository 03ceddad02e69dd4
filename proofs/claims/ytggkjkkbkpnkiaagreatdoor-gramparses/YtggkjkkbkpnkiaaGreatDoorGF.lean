/-
  Carried over from another seat of ours (GF).
-/
import Derived.Test.YtggkjkkbkpnkiaaGreatDoorGE
set_option linter.unusedVariables false
set_option linter.unusedSimpArgs false
namespace Go.Proofs.YtggkjkkbkpnkiaaGreatDoor
open Go.RowKit Go.Maps
variable {x : Kx} {W W' : World} {pb : Nat} {p p' : Ps}

theorem Reps.one {A : Nat → Prop} {W : World} : ∀ {l : List Tr} {vs : List Value}, Reps A W l vs → ∀ u ∈ vs.flatMap cellsOf, u.oneCell' = true
  | [], vs, k => by cases k; simp
  | t :: l, vs, k => by
    obtain ⟨v', r, rfl, k1, k2⟩ := k
    obtain ⟨_, _, _, _, _, _, _, _, _, rfl⟩ := Rep.agg k1
    intro u hu
    rw [List.flatMap_cons, List.mem_append] at hu
    rcases hu with hu | hu
    · simp [cellsOf] at hu
      rcases hu with rfl | rfl | rfl | rfl | rfl <;> rfl
    · exact Reps.one k2 u hu
/-- More trees: the row has grown, in its place or elsewhere. -/
theorem Lr.grownL {base : Nat} {l m : List Tr} {u v' : Value} {vs us : List Value} (hb : base ≤ W.heap.size) (hreps : Reps (fun z => base ≤ z ∧ u.ownBlock ≠ some z) W l vs)
    (hrep : Reps (fun z => base ≤ z ∧ u.ownBlock ≠ some z) W m us) (h5 : W.grownBy W' u.ownBlock) (hloc : v'.ownBlock = u.ownBlock ∨ v'.ownBlock = some W.heap.size)
    (hrow' : W'.ownsRow base 30 5 v' (l.length + m.length) (vs.flatMap cellsOf ++ us.flatMap cellsOf)) : Lr base W' (l ++ m) v' := by
  have hT : Turn (fun z => base ≤ z ∧ u.ownBlock ≠ some z) (fun z => base ≤ z ∧ v'.ownBlock ≠ some z) W W' := fun z hz hl => by
    have h1 : v'.ownBlock ≠ some z := by
      rcases hloc with e | e
      · rw [e]; exact hz.2
      · rw [e]; intro e2; cases e2; omega
    exact ⟨⟨hz.1, h1⟩, h5.block z hl (fun e => hz.2 e.symm)⟩
  refine ⟨Nat.le_trans hb h5.size, vs ++ us, ?_, (hrep.turn hT).app (hreps.turn hT)⟩
  rw [List.flatMap_append, List.length_append]
  exact hrow'
/-- The cells of a row that is not empty. -/
theorem row_cells {base n : Nat} {v : Value} {xs : List Value} (h : W.ownsRow base 30 5 v n xs) (hn : 0 < n) : ∃ g c, v = .slice (some ⟨g, 0, none⟩) n c ∧ ∀ j u, xs[j]? = some u → W.cell? ((⟨g, 0, none⟩ : Addr).add j) = some u := by
  rcases h.2 with ⟨_, h0⟩ | ⟨g, cap, cur, rfl, hg, h2, h3, _, _, h6⟩
  · omega
  · refine ⟨g, cap, rfl, fun j u hj => ?_⟩
    have hadd : (⟨g, 0, none⟩ : Addr).add j = ⟨g, j, none⟩ := by unfold Addr.add; split <;> simp_all
    have hlt : j < n * 5 := by
      have := (List.getElem?_eq_some_iff.1 hj).1
      rw [h.1] at this; exact this
    rw [← h6, List.getElem?_take_of_lt hlt] at hj
    rw [hadd]
    simp only [World.cell?, h2]
    simpa using hj
theorem sevL_len (ts : List Tn) (s : ByteArray) (g : Rule) : ∀ (f : Nat) (l : List Tr) (p : Ps), l.length ≤ (sevL ts s g f l p).1.length
  | 0, l, p => Nat.le_refl _
  | f + 1, l, p => by
    rw [sevL]
    split
    · exact Nat.le_trans (by simp) (sevL_len ts s g f _ _)
    · exact Nat.le_refl _
theorem sevV_pos (ts : List Tn) (s : ByteArray) (g : Rule) (p : Ps) : 0 < (sevV ts s g p).1.length := Nat.lt_of_lt_of_le Nat.zero_lt_one (sevL_len ts s g ts.length [(g p).1] (g p).2)

abbrev wOf : ByteArray := ⟨#[111, 102]⟩
abbrev wEnd : ByteArray := ⟨#[101, 110, 100]⟩
abbrev wAft : ByteArray := ⟨#[97, 102, 116, 101, 114]⟩
abbrev sem : ByteArray := ⟨#[59]⟩
def choiceV (ts : List Tn) (ex un : Rule) (p : Ps) : Tr × Ps :=
  (.mk 12 e0 0 [] ([(ex p).1] ++ (sevV ts sem (clauseV ts ex un) (wantV ts wOf (ex p).2)).1), wantV ts wEnd (sevV ts sem (clauseV ts ex un) (wantV ts wOf (ex p).2)).2)
set_option maxRecDepth 100000 in
set_option maxHeartbeats 1600000 in
theorem choice_c (d : Nat) (ex un : Rule) (hx : RuleOk x 50 d ex) (hu : RuleOk x 71 d un) : RuleOk x 98 d (choiceV x.ts ex un) := by
  refine ⟨ent_of Tryz.func98 (by kernel_rfl) rfl, fun W pb p h hd => ?_⟩
  have hcl := clause_c d ex un hx hu
  have hqo := wantV_ge x.ts wOf (ex p).2
  have hpos := sevV_pos x.ts sem (clauseV x.ts ex un) (wantV x.ts wOf (ex p).2)
  have hqe := wantV_ge x.ts wEnd (sevV x.ts sem (clauseV x.ts ex un) (wantV x.ts wOf (ex p).2)).2
  have hm := h.hm
  obtain ⟨i0, hi0, hzz, hz1, hz2⟩ := info_parts info25
  rw [choiceV]
  generalize hSr : sevV x.ts sem (clauseV x.ts ex un) (wantV x.ts wOf (ex p).2) = sr at hpos hqe
  have HSr := Lib.hid hSr
  clear hSr
  replace hm := Lib.hid hm
  replace hpos := Lib.hid hpos
  have hb := h.lt
  have h0 := h.g0 (Gr.alloc W (.cells zc 30) _)
  have hb0 := heap_alloc_new W (.cells zc 30)
  have g0 : Gr (fun _ => False) W (W.alloc (.cells zc 30)) := Gr.alloc _ _ _
  have hz0 : (W.alloc (.cells zc 30)).heap.size = W.heap.size + 1 := by simp
  go_enter Tryz.func98, Tryz.ntmps98
  go_wp2_with fail
  generalize W.alloc (.cells zc 30) = W0 at h0 hb0 g0 hz0 ⊢
  obtain ⟨b, hbb⟩ : ∃ b, W.heap.size = b := ⟨_, rfl⟩
  have hbp : pb < b := by omega
  rw [hbb] at hb0 hz0 ⊢
  refine (hx.2 W0 pb p h0 hd).mono ?_
  rintro e w1 ⟨v, rfl, rep1, h1, ⟨hd1, hi1⟩, g1⟩
  obtain ⟨tk, tt, tn, a1, n1, c1, a2, n2, c2, rfl⟩ := rep1.agg
  have hs1 := g1.size
  have L2 := Lr.lit1 (rep1.mono (base' := b + 1) (by omega)) (by omega)
  have G2 : Gr (fun _ => False) w1 (w1.alloc (.cells #[.int .i64 tk, .string tt, .int .i64 tn, .slice a1 n1 c1, .slice a2 n2 c2] 30)) := Gr.alloc _ _ _
  have hbl := h1.lt
  go_wp2_with fail
  generalize w1.alloc _ = w2 at G2 L2 ⊢
  refine (want_c (h1.g0 G2) wOf).mono ?_
  rintro e w3 ⟨rfl, h3, g3⟩
  have L3 := L2.gr g3 (fun k hk e => by omega)
  have hc3 := several_c 107 d (clauseV x.ts ex un) hcl sem h3 ((hqo.2.trans hd1).trans hd)
  rw [HSr.out] at hc3
  generalize Value.slice (some ⟨w1.heap.size, 0, none⟩) 1 1 = u3 at L3 ⊢
  go_wp2_with fail
  refine hc3.mono ?_
  rintro e w4 ⟨v4, rfl, L4, h4, ⟨hd4, hi4, hlen4⟩, g4⟩
  obtain ⟨hL0, vs, hrow, hreps⟩ := L3
  obtain ⟨hL04, us, hrow4, hreps4⟩ := L4
  have hrow' := ownsRow_gr hrow g4 (fun z h1 h2 => by omega)
  have hreps' : Reps (fun z => b + 1 ≤ z ∧ u3.ownBlock ≠ some z) w4 [(ex p).1] vs := hreps.turn (fun z hz hl => ⟨hz, g4.block z hl (by omega)⟩)
  have hreps4' : Reps (fun z => b + 1 ≤ z ∧ u3.ownBlock ≠ some z) w4 sr.1 us := hreps4.turn (fun z hz hl => ⟨⟨by omega, fun e => by have := (ownsRow_lt hrow z e).2; omega⟩, rfl⟩)
  obtain ⟨g4b, c4, rfl, hcells⟩ := row_cells hrow4 hpos.out
  have hone := hreps4.one
  have hcl4 := hreps4.cells
  have hib := h4.hi
  have hlenH : Hid (sr.1.length ≤ 100001) := by have := hm.out; show _ ≤ _; omega
  have hsb4 : Hid (b + 1 ≤ w4.heap.size) := by have := g4.size; show _ ≤ _; omega
  clear hlen4 hib hc3
  go_wp2_with (first
    | (at_builtin; refine wpList_own2 _ rfl 28 _ _ rfl (b + 1) 30 i0 (trv 0 e0 0 nl nl) 5 80 Tryz.underlying28 hi0 hzz hz1 hz2 rfl (by decide) u3 1 (vs.flatMap cellsOf) ⟨g4b, 0, none⟩ sr.1.length c4 (us.flatMap cellsOf) rfl rfl hrow' hcl4 hcells hone (by unfold maxLen; have := hlenH.out; omega) (by have := hlenH.out; omega) hsb4.out ?_; intro v' w5 hrow5 hgr5 hloc5; obtain ⟨a5, cap5, rfl⟩ := ownsRow_sv hrow5))
  have L5 : Lr (b + 1) w5 ([(ex p).1] ++ sr.1) _ := Lr.grownL hsb4.out hreps' hreps4' hgr5 hloc5 hrow5
  have G5 : Gr (fun z => b + 1 ≤ z) w4 w5 := Gr.of_grown hgr5 (fun z e => (ownsRow_lt hrow' z e).1)
  have h5 := h4.gr G5 (fun k hk e => by omega)
  have hb5 := G5.keep (g4.keep (g3.keep (G2.keep (g1.keep hb0 (by omega)) (fun e => e)) (by omega)) (by omega)) (by omega)
  have g5 : Gr (fun k => k = pb) W w5 := (((((g0.any _).trans g1).trans (G2.any _)).trans g3).trans g4).trans' G5 (fun k hk e => by omega)
  clear hrow5 hgr5 hloc5 hrow hrow' hrow4 hreps hreps' hreps4 hreps4' hcells hone hcl4 G5
  refine (want_c h5 wEnd).mono ?_
  rintro e w6 ⟨rfl, h6, g6⟩
  have L6 := L5.gr g6 (fun k hk e => by omega)
  go_wp2_with fail
  refine (node_c w6 12 e0 a5 _ cap5).mono ?_
  rintro e w7 ⟨rfl, g7⟩
  have hbN := g7.keep (g6.keep hb5 (by omega)) (fun e => e)
  obtain ⟨⟨m0, m1, m2, m3, m4⟩, f0, f1, f2, f3, f4⟩ := five_cells hbN
  go_wp2_with fail
  have gN : Gr (fun k => k = pb) W w7 := (g5.trans g6).trans (g7.any _)
  have rep := (L6.g0 g7).tree 12 e0
  have hN := h6.g0 g7
  obtain ⟨hf, r1, r2, r3⟩ := fin_tree hbN rep hN hbp gN hbb
  clear m0 m1 m2 m3 m4
  obtain ⟨⟨m0, m1, m2, m3, m4⟩, _⟩ := five_cells hf
  exact bodyPost_ret (v := trv 12 e0 0 nl (.slice a5 _ cap5)) (by simp [results, Tryz.results98, go_sem, m0, m1, m2, m3, m4]) rfl ⟨_, rfl, r1, r2, ⟨((hqe.2.trans hd4).trans hqo.2).trans hd1, Nat.le_trans (Nat.le_trans hi1 hqo.1) (Nat.le_trans hi4 hqe.1)⟩, r3⟩

/-- The clauses of receive. -/
def rclV (ts : List Tn) (ex un : Rule) (p : Ps) : List Tr × Ps := if isV ts p wAft = true then ([], p) else sevV ts sem (clauseV ts ex un) p
def raftV (ts : List Tn) (ex : Rule) (c : List Tr × Ps) : List Tr × Ps :=
  if isV ts c.2 wAft = true then (c.1 ++ [.mk 14 e0 0 [] [(ex c.2.next).1, (arrowV ts ex (ex c.2.next).2).1]], (arrowV ts ex (ex c.2.next).2).2) else c
def recvV (ts : List Tn) (ex un : Rule) (p : Ps) : Tr × Ps := (.mk 13 e0 0 [] (raftV ts ex (rclV ts ex un p)).1, wantV ts wEnd (raftV ts ex (rclV ts ex un p)).2)
set_option maxRecDepth 100000 in
set_option maxHeartbeats 1600000 in
theorem receive_a (d : Nat) (ex un : Rule) (hx : RuleOk x 50 d ex) (hu : RuleOk x 71 d un) (W : World) (pb : Nat) (p : Ps) (h : Pz x W pb p) (hd : p.d = d) (hA : isV x.ts p wAft = true) :
    Calls Tryz.prog 99 #[pt pb] W fun e w' => EndR x W pb p e w' (recvV x.ts ex un p) := by
  have hcl := clause_c d ex un hx hu
  have har := arrow_c d ex hx
  have hm := h.hm
  replace hm := Lib.hid hm
  obtain ⟨i0, hi0, hzz, hz1, hz2⟩ := info_parts info25
  have e1 : rclV x.ts ex un p = ([], p) := by rw [rclV, if_pos hA]
  obtain ⟨l2, hl2⟩ : ∃ l : List Tr, l = [] := ⟨_, rfl⟩
  obtain ⟨q, hq⟩ : ∃ q, q = p := ⟨_, rfl⟩
  have e2 : recvV x.ts ex un p = (.mk 13 e0 0 [] (l2 ++ [.mk 14 e0 0 [] [(ex q.next).1, (arrowV x.ts ex (ex q.next).2).1]]), wantV x.ts wEnd (arrowV x.ts ex (ex q.next).2).2) := by
    rw [hl2, hq, recvV, e1, raftV, if_pos hA]
  rw [e2]
  have hJ0 : q.d = p.d ∧ p.i ≤ q.i ∧ l2.length ≤ q.i + 1 := by rw [hq, hl2]; exact ⟨rfl, Nat.le_refl _, by simp⟩
  clear e1 e2
  have HQ := Lib.hid hq
  have HL := Lib.hid hl2
  clear hq hl2
  have hb := h.lt
  have h0 := h.g0 (Gr.alloc W (.cells zc 30) _)
  have hb0 := heap_alloc_new W (.cells zc 30)
  have g0 : Gr (fun _ => False) W (W.alloc (.cells zc 30)) := Gr.alloc _ _ _
  have hz0 : (W.alloc (.cells zc 30)).heap.size = W.heap.size + 1 := by simp
  go_enter Tryz.func99, Tryz.ntmps99
  go_wp2_with fail
  generalize W.alloc (.cells zc 30) = W0 at h0 hb0 g0 hz0 ⊢
  obtain ⟨b, hbb⟩ : ∃ b, W.heap.size = b := ⟨_, rfl⟩
  have hbp : pb < b := by omega
  rw [hbb] at hb0 hz0 ⊢
  have hk := is_c h0 wAft
  rw [hA] at hk
  refine hk.mono ?_
  rintro e w2 ⟨rfl, gA⟩
  have h2 := h0.g0 gA
  have hb2 := gA.keep hb0 (fun e => e)
  have G2 : Gr (fun k => k = pb) W w2 := (g0.any _).trans (gA.any _)
  have hsA := gA.size
  have L2 : Lr (b + 1) w2 l2 nl := by rw [HL.out]; exact Lr.nil w2 (by omega)
  have htk := take_c h2 wAft
  rw [if_pos hA, hA, ← HQ.out] at htk
  go_wp2_with fail
  refine htk.mono ?_
  rintro e w3 ⟨rfl, h3, g3⟩
  have L3 := L2.gr g3 (fun k hk e => by omega)
  go_wp2_with fail
  refine (hx.2 w3 pb _ h3 (by show q.d = d; exact hJ0.1.trans hd)).mono ?_
  rintro e w4 ⟨v, rfl, rep4, h4, ⟨hd4, hi4⟩, g4⟩
  obtain ⟨tk, tt, tn, a1, n1, c1, a2, n2, c2, rfl⟩ := rep4.agg
  go_wp2_with fail
  refine (har.2 w4 pb _ h4 (hd4.trans (hJ0.1.trans hd))).mono ?_
  rintro e w5 ⟨v, rfl, rep5, h5, ⟨hd5, hi5⟩, g5⟩
  obtain ⟨uk, ut, un', a3, n3, c3, a4, n4, c4, rfl⟩ := rep5.agg
  have hs3 := g3.size
  have hb3 := h3.lt
  have hs4 := g4.size
  have hs5 := g5.size
  have hbl := h5.lt
  have Ly := Lr.lit2 ((rep4.mono (base' := w3.heap.size) (by omega)).gr g5 (fun k hk e => by omega)) (rep5.mono (base' := w3.heap.size) (by omega)) (by omega)
  have Gy : Gr (fun _ => False) w5 (w5.alloc (.cells #[.int .i64 tk, .string tt, .int .i64 tn, .slice a1 n1 c1, .slice a2 n2 c2, .int .i64 uk, .string ut, .int .i64 un', .slice a3 n3 c3, .slice a4 n4 c4] 30)) := Gr.alloc _ _ _
  go_wp2_with fail
  generalize w5.alloc _ = wy at Ly Gy ⊢
  refine (node_c wy 14 e0 _ 2 2).mono ?_
  rintro e w6 ⟨rfl, g6⟩
  have hs6 := Nat.le_trans Gy.size g6.size
  obtain ⟨hL0, vs, hrow, hreps⟩ := L3
  have rep6 := rep_apart ((Ly.g0 g6).tree 14 e0) hrow (Nat.le_refl _) hL0
  have G36 : Gr (fun k => k = pb) w3 w6 := ((g4.trans g5).trans (Gy.any _)).trans (g6.any _)
  have hrow6 := ownsRow_gr hrow G36 (fun z h1 h2 => by omega)
  have hreps6 : Reps (fun z => b + 1 ≤ z ∧ nl.ownBlock ≠ some z) w6 l2 vs := hreps.turn (fun z hz hl => ⟨hz, G36.block z hl (by omega)⟩)
  have h6 := (h5.g0 Gy).g0 g6
  have hlen : Hid (l2.length ≤ 100001) := by have := hm.out; have := h3.hi; simp only [Ps.next] at this; have := hJ0.2.2; show _ ≤ _; omega
  have hsb6 : Hid (b + 1 ≤ w6.heap.size) := by show _ ≤ _; omega
  clear rep4 rep5 Ly hreps hrow
  go_wp2_with (first
    | (at_builtin; refine wpList_own2 _ rfl 28 _ _ rfl (b + 1) 30 i0 (trv 0 e0 0 nl nl) 5 80 Tryz.underlying28 hi0 hzz hz1 hz2 rfl (by decide) nl l2.length (vs.flatMap cellsOf) ⟨w6.heap.size, 0, none⟩ 1 1 [.int .i64 14, .string e0, .int .i64 0, nl, .slice (some ⟨w5.heap.size, 0, none⟩) 2 2] rfl rfl (hrow6.alloc _) rfl (cell_five_new _ _ _ _ _ _ _) (by simp [Value.oneCell']) (by unfold maxLen; have := hlen.out; omega) (by have := hlen.out; omega) (by have := hsb6.out; simp; omega) ?_; intro v' w7 hrow7 hgr7 hloc7; obtain ⟨a7, c7, rfl⟩ := ownsRow_sv hrow7))
  have Gx : Gr (fun _ => False) w6 (w6.alloc (.cells #[.int .i64 14, .string e0, .int .i64 0, nl, .slice (some ⟨w5.heap.size, 0, none⟩) 2 2] 30)) := Gr.alloc _ _ _
  generalize w6.alloc _ = w6' at hrow7 hgr7 hloc7 Gx
  have hTx : Turn (fun z => b + 1 ≤ z ∧ nl.ownBlock ≠ some z) (fun z => b + 1 ≤ z ∧ nl.ownBlock ≠ some z) w6 w6' := fun z hz hl => ⟨hz, Gx.block z hl (fun e => e)⟩
  have hrow6' := ownsRow_gr hrow6 Gx (fun _ _ e => e)
  have L7 := Lr.grown (Nat.le_trans hsb6.out Gx.size) hrow6' (hreps6.turn hTx) (rep6.turn hTx) hgr7 hloc7 hrow7
  have G67 : Gr (fun z => b + 1 ≤ z) w6' w7 := Gr.of_grown hgr7 (fun z e => (ownsRow_lt hrow6' z e).1)
  have h7 := (h6.g0 Gx).gr G67 (fun k hk e => by omega)
  have hb7 := G67.keep (Gx.keep (G36.keep (g3.keep hb2 (by omega)) (by omega)) (fun e => e)) (by omega)
  have G7 : Gr (fun k => k = pb) W w7 := (((G2.trans g3).trans G36).trans (Gx.any _)).trans' G67 (fun k hk e => by omega)
  clear hrow7 hgr7 hloc7 hrow6 hrow6' hreps6 rep6 hTx G67
  have hJ : (arrowV x.ts ex (ex q.next).2).2.d = p.d ∧ p.i ≤ (arrowV x.ts ex (ex q.next).2).2.i := by
    have e1 : (ex q.next).2.d = q.d := hd4
    have e2 : q.i + 1 ≤ (ex q.next).2.i := hi4
    exact ⟨(hd5.trans e1).trans hJ0.1, by have := hJ0.2.1; omega⟩
  have hqe := wantV_ge x.ts wEnd (arrowV x.ts ex (ex q.next).2).2
  refine (want_c h7 wEnd).mono ?_
  rintro e w8 ⟨rfl, h8, g8⟩
  have L8 := L7.gr g8 (fun k hk e => by omega)
  go_wp2_with fail
  refine (node_c w8 13 e0 a7 _ c7).mono ?_
  rintro e w9 ⟨rfl, g9⟩
  have hbN := g9.keep (g8.keep hb7 (by omega)) (fun e => e)
  obtain ⟨⟨m0, m1, m2, m3, m4⟩, f0, f1, f2, f3, f4⟩ := five_cells hbN
  go_wp2_with fail
  have gN : Gr (fun k => k = pb) W w9 := (G7.trans g8).trans (g9.any _)
  have rep := (L8.g0 g9).tree 13 e0
  have hN := h8.g0 g9
  obtain ⟨hf, r1, r2, r3⟩ := fin_tree hbN rep hN hbp gN hbb
  clear m0 m1 m2 m3 m4
  obtain ⟨⟨m0, m1, m2, m3, m4⟩, _⟩ := five_cells hf
  exact bodyPost_ret (v := trv 13 e0 0 nl (.slice a7 _ c7)) (by simp [results, Tryz.results99, go_sem, m0, m1, m2, m3, m4]) rfl ⟨_, rfl, r1, r2, ⟨hqe.2.trans hJ.1, Nat.le_trans hJ.2 hqe.1⟩, r3⟩
set_option maxRecDepth 100000 in
set_option maxHeartbeats 1600000 in
theorem receive_b (d : Nat) (ex un : Rule) (hx : RuleOk x 50 d ex) (hu : RuleOk x 71 d un) (W : World) (pb : Nat) (p : Ps) (h : Pz x W pb p) (hd : p.d = d) (hA : isV x.ts p wAft = false) (hB : isV x.ts (rclV x.ts ex un p).2 wAft = true) :
    Calls Tryz.prog 99 #[pt pb] W fun e w' => EndR x W pb p e w' (recvV x.ts ex un p) := by
  have hcl := clause_c d ex un hx hu
  have har := arrow_c d ex hx
  have hm := h.hm
  replace hm := Lib.hid hm
  obtain ⟨i0, hi0, hzz, hz1, hz2⟩ := info_parts info25
  have e1 : rclV x.ts ex un p = sevV x.ts sem (clauseV x.ts ex un) p := by rw [rclV, if_neg (by rw [hA]; decide)]
  have hc0 := fun W0 h0 => several_c (W := W0) (pb := pb) (p := p) 107 d (clauseV x.ts ex un) hcl sem h0 hd
  rw [recvV, e1]
  rw [e1] at hB
  generalize sevV x.ts sem (clauseV x.ts ex un) p = sr at hc0 hB
  obtain ⟨l2, q⟩ := sr
  replace hB : isV x.ts q wAft = true := hB
  have e2 : raftV x.ts ex (l2, q) = (l2 ++ [.mk 14 e0 0 [] [(ex q.next).1, (arrowV x.ts ex (ex q.next).2).1]], (arrowV x.ts ex (ex q.next).2).2) := by rw [raftV, if_pos hB]
  rw [e2]
  clear e1 e2
  have hb := h.lt
  have h0 := h.g0 (Gr.alloc W (.cells zc 30) _)
  have hb0 := heap_alloc_new W (.cells zc 30)
  have g0 : Gr (fun _ => False) W (W.alloc (.cells zc 30)) := Gr.alloc _ _ _
  have hz0 : (W.alloc (.cells zc 30)).heap.size = W.heap.size + 1 := by simp
  go_enter Tryz.func99, Tryz.ntmps99
  go_wp2_with fail
  generalize W.alloc (.cells zc 30) = W0 at h0 hb0 g0 hz0 ⊢
  obtain ⟨b, hbb⟩ : ∃ b, W.heap.size = b := ⟨_, rfl⟩
  have hbp : pb < b := by omega
  rw [hbb] at hb0 hz0 ⊢
  have hk := is_c h0 wAft
  rw [hA] at hk
  refine hk.mono ?_
  rintro e wA ⟨rfl, gA⟩
  have hA1 := h0.g0 gA
  have hsA := gA.size
  go_wp2_with fail
  refine (hc0 wA hA1).mono ?_
  rintro e w2 ⟨u2, rfl, L2, h2, hJ0, gB⟩
  replace L2 : Lr (b + 1) w2 l2 u2 := L2.mono (by omega)
  replace hJ0 : q.d = p.d ∧ p.i ≤ q.i ∧ l2.length ≤ q.i + 1 := hJ0
  replace h2 : Pz x w2 pb q := h2
  have hb2 := gB.keep (gA.keep hb0 (fun e => e)) (by omega)
  have G2 : Gr (fun k => k = pb) W w2 := ((g0.any _).trans (gA.any _)).trans gB
  have htk := take_c h2 wAft
  rw [if_pos hB, hB] at htk
  obtain ⟨sa, sc, rfl⟩ := L2.sv
  go_wp2_with fail
  generalize Value.slice sa l2.length sc = u2 at L2 ⊢
  refine htk.mono ?_
  rintro e w3 ⟨rfl, h3, g3⟩
  have L3 := L2.gr g3 (fun k hk e => by omega)
  go_wp2_with fail
  refine (hx.2 w3 pb _ h3 (by show q.d = d; exact hJ0.1.trans hd)).mono ?_
  rintro e w4 ⟨v, rfl, rep4, h4, ⟨hd4, hi4⟩, g4⟩
  obtain ⟨tk, tt, tn, a1, n1, c1, a2, n2, c2, rfl⟩ := rep4.agg
  go_wp2_with fail
  refine (har.2 w4 pb _ h4 (hd4.trans (hJ0.1.trans hd))).mono ?_
  rintro e w5 ⟨v, rfl, rep5, h5, ⟨hd5, hi5⟩, g5⟩
  obtain ⟨uk, ut, un', a3, n3, c3, a4, n4, c4, rfl⟩ := rep5.agg
  have hs3 := g3.size
  have hb3 := h3.lt
  have hs4 := g4.size
  have hs5 := g5.size
  have hbl := h5.lt
  have Ly := Lr.lit2 ((rep4.mono (base' := w3.heap.size) (by omega)).gr g5 (fun k hk e => by omega)) (rep5.mono (base' := w3.heap.size) (by omega)) (by omega)
  have Gy : Gr (fun _ => False) w5 (w5.alloc (.cells #[.int .i64 tk, .string tt, .int .i64 tn, .slice a1 n1 c1, .slice a2 n2 c2, .int .i64 uk, .string ut, .int .i64 un', .slice a3 n3 c3, .slice a4 n4 c4] 30)) := Gr.alloc _ _ _
  go_wp2_with fail
  generalize w5.alloc _ = wy at Ly Gy ⊢
  refine (node_c wy 14 e0 _ 2 2).mono ?_
  rintro e w6 ⟨rfl, g6⟩
  have hs6 := Nat.le_trans Gy.size g6.size
  obtain ⟨hL0, vs, hrow, hreps⟩ := L3
  have rep6 := rep_apart ((Ly.g0 g6).tree 14 e0) hrow (Nat.le_refl _) hL0
  have G36 : Gr (fun k => k = pb) w3 w6 := ((g4.trans g5).trans (Gy.any _)).trans (g6.any _)
  have hrow6 := ownsRow_gr hrow G36 (fun z h1 h2 => by omega)
  have hreps6 : Reps (fun z => b + 1 ≤ z ∧ u2.ownBlock ≠ some z) w6 l2 vs := hreps.turn (fun z hz hl => ⟨hz, G36.block z hl (by omega)⟩)
  have h6 := (h5.g0 Gy).g0 g6
  have hlen : Hid (l2.length ≤ 100001) := by have := hm.out; have := h3.hi; simp only [Ps.next] at this; have := hJ0.2.2; show _ ≤ _; omega
  have hsb6 : Hid (b + 1 ≤ w6.heap.size) := by show _ ≤ _; omega
  clear rep4 rep5 Ly hreps hrow
  go_wp2_with (first
    | (at_builtin; refine wpList_own2 _ rfl 28 _ _ rfl (b + 1) 30 i0 (trv 0 e0 0 nl nl) 5 80 Tryz.underlying28 hi0 hzz hz1 hz2 rfl (by decide) u2 l2.length (vs.flatMap cellsOf) ⟨w6.heap.size, 0, none⟩ 1 1 [.int .i64 14, .string e0, .int .i64 0, nl, .slice (some ⟨w5.heap.size, 0, none⟩) 2 2] rfl rfl (hrow6.alloc _) rfl (cell_five_new _ _ _ _ _ _ _) (by simp [Value.oneCell']) (by unfold maxLen; have := hlen.out; omega) (by have := hlen.out; omega) (by have := hsb6.out; simp; omega) ?_; intro v' w7 hrow7 hgr7 hloc7; obtain ⟨a7, c7, rfl⟩ := ownsRow_sv hrow7))
  have Gx : Gr (fun _ => False) w6 (w6.alloc (.cells #[.int .i64 14, .string e0, .int .i64 0, nl, .slice (some ⟨w5.heap.size, 0, none⟩) 2 2] 30)) := Gr.alloc _ _ _
  generalize w6.alloc _ = w6' at hrow7 hgr7 hloc7 Gx
  have hTx : Turn (fun z => b + 1 ≤ z ∧ u2.ownBlock ≠ some z) (fun z => b + 1 ≤ z ∧ u2.ownBlock ≠ some z) w6 w6' := fun z hz hl => ⟨hz, Gx.block z hl (fun e => e)⟩
  have hrow6' := ownsRow_gr hrow6 Gx (fun _ _ e => e)
  have L7 := Lr.grown (Nat.le_trans hsb6.out Gx.size) hrow6' (hreps6.turn hTx) (rep6.turn hTx) hgr7 hloc7 hrow7
  have G67 : Gr (fun z => b + 1 ≤ z) w6' w7 := Gr.of_grown hgr7 (fun z e => (ownsRow_lt hrow6' z e).1)
  have h7 := (h6.g0 Gx).gr G67 (fun k hk e => by omega)
  have hb7 := G67.keep (Gx.keep (G36.keep (g3.keep hb2 (by omega)) (by omega)) (fun e => e)) (by omega)
  have G7 : Gr (fun k => k = pb) W w7 := (((G2.trans g3).trans G36).trans (Gx.any _)).trans' G67 (fun k hk e => by omega)
  clear hrow7 hgr7 hloc7 hrow6 hrow6' hreps6 rep6 hTx G67
  have hJ : (arrowV x.ts ex (ex q.next).2).2.d = p.d ∧ p.i ≤ (arrowV x.ts ex (ex q.next).2).2.i := by
    have e1 : (ex q.next).2.d = q.d := hd4
    have e2 : q.i + 1 ≤ (ex q.next).2.i := hi4
    exact ⟨(hd5.trans e1).trans hJ0.1, by have := hJ0.2.1; omega⟩
  have hqe := wantV_ge x.ts wEnd (arrowV x.ts ex (ex q.next).2).2
  refine (want_c h7 wEnd).mono ?_
  rintro e w8 ⟨rfl, h8, g8⟩
  have L8 := L7.gr g8 (fun k hk e => by omega)
  go_wp2_with fail
  refine (node_c w8 13 e0 a7 _ c7).mono ?_
  rintro e w9 ⟨rfl, g9⟩
  have hbN := g9.keep (g8.keep hb7 (by omega)) (fun e => e)
  obtain ⟨⟨m0, m1, m2, m3, m4⟩, f0, f1, f2, f3, f4⟩ := five_cells hbN
  go_wp2_with fail
  have gN : Gr (fun k => k = pb) W w9 := (G7.trans g8).trans (g9.any _)
  have rep := (L8.g0 g9).tree 13 e0
  have hN := h8.g0 g9
  obtain ⟨hf, r1, r2, r3⟩ := fin_tree hbN rep hN hbp gN hbb
  clear m0 m1 m2 m3 m4
  obtain ⟨⟨m0, m1, m2, m3, m4⟩, _⟩ := five_cells hf
  exact bodyPost_ret (v := trv 13 e0 0 nl (.slice a7 _ c7)) (by simp [results, Tryz.results99, go_sem, m0, m1, m2, m3, m4]) rfl ⟨_, rfl, r1, r2, ⟨hqe.2.trans hJ.1, Nat.le_trans hJ.2 hqe.1⟩, r3⟩
set_option maxRecDepth 100000 in
set_option maxHeartbeats 1600000 in
theorem receive_c' (d : Nat) (ex un : Rule) (hx : RuleOk x 50 d ex) (hu : RuleOk x 71 d un) (W : World) (pb : Nat) (p : Ps) (h : Pz x W pb p) (hd : p.d = d) (hA : isV x.ts p wAft = false) (hB : isV x.ts (rclV x.ts ex un p).2 wAft = false) :
    Calls Tryz.prog 99 #[pt pb] W fun e w' => EndR x W pb p e w' (recvV x.ts ex un p) := by
  have hcl := clause_c d ex un hx hu
  have har := arrow_c d ex hx
  have hm := h.hm
  replace hm := Lib.hid hm
  obtain ⟨i0, hi0, hzz, hz1, hz2⟩ := info_parts info25
  have e1 : rclV x.ts ex un p = sevV x.ts sem (clauseV x.ts ex un) p := by rw [rclV, if_neg (by rw [hA]; decide)]
  have hc0 := fun W0 h0 => several_c (W := W0) (pb := pb) (p := p) 107 d (clauseV x.ts ex un) hcl sem h0 hd
  rw [recvV, e1]
  rw [e1] at hB
  generalize sevV x.ts sem (clauseV x.ts ex un) p = sr at hc0 hB
  obtain ⟨l2, q⟩ := sr
  replace hB : isV x.ts q wAft = false := hB
  have e2 : raftV x.ts ex (l2, q) = (l2, q) := by rw [raftV, if_neg (by rw [hB]; decide)]
  rw [e2]
  have hqe := wantV_ge x.ts wEnd q
  clear e1 e2
  have hb := h.lt
  have h0 := h.g0 (Gr.alloc W (.cells zc 30) _)
  have hb0 := heap_alloc_new W (.cells zc 30)
  have g0 : Gr (fun _ => False) W (W.alloc (.cells zc 30)) := Gr.alloc _ _ _
  have hz0 : (W.alloc (.cells zc 30)).heap.size = W.heap.size + 1 := by simp
  go_enter Tryz.func99, Tryz.ntmps99
  go_wp2_with fail
  generalize W.alloc (.cells zc 30) = W0 at h0 hb0 g0 hz0 ⊢
  obtain ⟨b, hbb⟩ : ∃ b, W.heap.size = b := ⟨_, rfl⟩
  have hbp : pb < b := by omega
  rw [hbb] at hb0 hz0 ⊢
  have hk := is_c h0 wAft
  rw [hA] at hk
  refine hk.mono ?_
  rintro e wA ⟨rfl, gA⟩
  have hA1 := h0.g0 gA
  have hsA := gA.size
  go_wp2_with fail
  refine (hc0 wA hA1).mono ?_
  rintro e w2 ⟨u2, rfl, L2, h2, hJ0, gB⟩
  replace L2 : Lr (b + 1) w2 l2 u2 := L2.mono (by omega)
  replace hJ0 : q.d = p.d ∧ p.i ≤ q.i ∧ l2.length ≤ q.i + 1 := hJ0
  replace h2 : Pz x w2 pb q := h2
  have hb2 := gB.keep (gA.keep hb0 (fun e => e)) (by omega)
  have G2 : Gr (fun k => k = pb) W w2 := ((g0.any _).trans (gA.any _)).trans gB
  have htk := take_c h2 wAft
  rw [if_neg (by rw [hB]; decide), hB] at htk
  obtain ⟨a7, c7, rfl⟩ := L2.sv
  go_wp2_with fail
  refine htk.mono ?_
  rintro e w7 ⟨rfl, h7, g7⟩
  have L7 := L2.gr g7 (fun k hk e => by omega)
  have hb7 := g7.keep hb2 (by omega)
  have G7 : Gr (fun k => k = pb) W w7 := G2.trans g7
  have hJ : q.d = p.d ∧ p.i ≤ q.i := ⟨hJ0.1, hJ0.2.1⟩
  have hbl := h7.lt
  go_wp2_with fail
  refine (want_c h7 wEnd).mono ?_
  rintro e w8 ⟨rfl, h8, g8⟩
  have L8 := L7.gr g8 (fun k hk e => by omega)
  go_wp2_with fail
  refine (node_c w8 13 e0 a7 _ c7).mono ?_
  rintro e w9 ⟨rfl, g9⟩
  have hbN := g9.keep (g8.keep hb7 (by omega)) (fun e => e)
  obtain ⟨⟨m0, m1, m2, m3, m4⟩, f0, f1, f2, f3, f4⟩ := five_cells hbN
  go_wp2_with fail
  have gN : Gr (fun k => k = pb) W w9 := (G7.trans g8).trans (g9.any _)
  have rep := (L8.g0 g9).tree 13 e0
  have hN := h8.g0 g9
  obtain ⟨hf, r1, r2, r3⟩ := fin_tree hbN rep hN hbp gN hbb
  clear m0 m1 m2 m3 m4
  obtain ⟨⟨m0, m1, m2, m3, m4⟩, _⟩ := five_cells hf
  exact bodyPost_ret (v := trv 13 e0 0 nl (.slice a7 _ c7)) (by simp [results, Tryz.results99, go_sem, m0, m1, m2, m3, m4]) rfl ⟨_, rfl, r1, r2, ⟨hqe.2.trans hJ.1, Nat.le_trans hJ.2 hqe.1⟩, r3⟩
theorem receive_c (d : Nat) (ex un : Rule) (hx : RuleOk x 50 d ex) (hu : RuleOk x 71 d un) : RuleOk x 99 d (recvV x.ts ex un) := by
  refine ⟨ent_of Tryz.func99 (by kernel_rfl) rfl, fun W pb p h hd => ?_⟩
  cases hA : isV x.ts p wAft with
  | true => exact receive_a d ex un hx hu W pb p h hd hA
  | false => cases hB : isV x.ts (rclV x.ts ex un p).2 wAft with
    | true => exact receive_b d ex un hx hu W pb p h hd hA hB
    | false => exact receive_c' d ex un hx hu W pb p h hd hA hB
end Go.Proofs.YtggkjkkbkpnkiaaGreatDoor


