/-
  Carried over from another seat of ours (GI).
-/
import Derived.Test.YtggkjkkbkpnkiaaGreatDoorGH
set_option linter.unusedVariables false
set_option linter.unusedSimpArgs false
namespace Go.Proofs.YtggkjkkbkpnkiaaGreatDoor
open Go.RowKit Go.Maps
variable {x : Kx} {W W' : World} {pb : Nat} {p p' : Ps}

theorem RowB.sb {A : Nat → Prop} {bs : List Int} {v : Value} (h : RowB A W bs v) : Sb W v bs := by
  rcases h with ⟨rfl, a, c, rfl⟩ | ⟨g, cap, cur, rfl, hg, hc, h1, h2⟩
  · cases a with
    | none => exact .inl ⟨c, rfl, rfl⟩
    | some a => exact .inr ⟨a, c, rfl, fun j u h => by simp [u8s] at h⟩
  · refine .inr ⟨_, cap, rfl, fun j u h => ?_⟩
    have hadd : (⟨g, 0, none⟩ : Addr).add j = ⟨g, j, none⟩ := by unfold Addr.add; split <;> simp_all
    have hlt : j < bs.length := by
      have := (List.getElem?_eq_some_iff.1 h).1
      simpa [u8s] using this
    rw [u8s, ← h2, List.getElem?_take_of_lt hlt] at h
    rw [hadd]
    simp only [World.cell?, hc]
    simpa using h
theorem nilS (c : Nat) (w : World) : (binOp .eql 25 (.slice none 0 c) (.slice none 0 0)).run Tryz.prog w = .ok (.bool true) w := by kernel_rfl
theorem someS (a : Addr) (n c : Nat) (w : World) : (binOp .eql 25 (.slice (some a) n c) (.slice none 0 0)).run Tryz.prog w = .ok (.bool false) w := by kernel_rfl
set_option maxRecDepth 100000 in
set_option maxHeartbeats 1600000 in
theorem bclone_c (W : World) (v : Value) (bs : List Int) (A : Nat → Prop) (h : RowB A W bs v) (hl : bs.length ≤ 200000) : Calls Tryz.prog 87 #[v] W fun e w' => ∃ v', e = .returned v' ∧ RowB (fun z => W.heap.size ≤ z) w' bs v' ∧ Gr (fun _ => False) W w' := by
  have hs := h.sb
  obtain ⟨a, c, rfl⟩ := h.sv
  cases a with
  | none =>
    have hb : bs = [] := by
      rcases h with ⟨rfl, _⟩ | ⟨g, cap, cur, e, _⟩
      · rfl
      · cases e
    subst hb
    have hq := nilS c
    go_enter Tryz.func87, Tryz.ntmps87
    go_wp2_with fail
    go_ret
    exact ⟨_, rfl, .inl ⟨rfl, _, _, rfl⟩, Gr.refl _ _⟩
  | some a =>
    have ho : Ob W.heap.size (W.alloc (.cells #[] 5)) (.slice (some ⟨W.heap.size, 0, none⟩) 0 0) [] := Ob.lit W.heap.size W [] (by simp) (Nat.le_refl _) #[] rfl 0 rfl
    have hs2 := hs.gr (Gr.alloc W (.cells #[] 5) (fun _ => False))
    have hl2 : Hid (bs.length ≤ 200000) := hl
    clear hl hs h
    have hq := someS a bs.length c
    go_enter Tryz.func87, Tryz.ntmps87
    go_wp2_with (first
      | (at_builtin; refine wpList_ap rfl _ _ rfl W.heap.size _ _ [] bs rfl rfl ho hs2 (by have := hl2.out; simp; omega) (by simp) ?_; intro v1 w1 o1 g1)
      | fail)
    obtain ⟨sa, sc, rfl⟩ := o1.sv
    go_ret
    refine ⟨_, rfl, ?_, ((Gr.alloc W (.cells #[] 5) (fun _ => False)).trans' (S' := fun k => W.heap.size ≤ k) (g1.gr.mono (fun i _ e => (ownsRow_lt ho.row i e).1)) (fun k hk e => by omega))⟩
    have := rowB_own (W := w1) (N := W.heap.size) (bs := bs) o1.row
    exact this

abbrev mns : ByteArray := ⟨#[45]⟩
def primV (ts : List Tn) (ex un : Rule) (p : Ps) : Tr × Ps :=
  if (pkT ts p).k = 1 then (.mk 1 e0 (pkT ts p).n [] [], p.next)
  else if (pkT ts p).k = 4 then (.mk 4 e0 0 (pkT ts p).b [], p.next)
  else if (pkT ts p).k = 3 then varV ts p
  else if (pkT ts p).k = 2 then atomV ts ex p
  else nestV ts ex un p
theorem Pz.tokB (h : Pz x W pb p) : ∃ va vn vc, pkB x.vs p = .slice va vn vc := by
  by_cases hl : p.i < x.cut p
  · obtain ⟨_, _, _, hrow, _⟩ := h.at hl
    obtain ⟨a, c, e⟩ := hrow.sv
    exact ⟨_, _, _, e⟩
  · exact ⟨_, _, _, pkB_end hl h.bs⟩
set_option maxRecDepth 100000 in
set_option maxHeartbeats 1600000 in
theorem prim_int (h : Pz x W pb p) (hk : (pkT x.ts p).k = 1) : Calls Tryz.prog 80 #[pt pb] W fun e w' => EndR x W pb p e w' (.mk 1 e0 (pkT x.ts p).n [] [], p.next) := by
  have hk0 := fun w hp => gpeek_c (x := x) (W := w) (pb := pb) (p := p) hp
  obtain ⟨va, vn, vc, hv⟩ := h.tokB
  rw [hv] at hk0
  obtain ⟨he, hl, _⟩ := h.at (lt_of_kind (x := x) (p := p) (by rw [hk]; decide))
  have hi2 : (p.i : Int) ≤ 100000 := by have := h.hi; have := h.hm; omega
  generalize pkT x.ts p = t at hk0 hk ⊢
  have q1 : (t.k == 1) = true := by simp [hk]
  clear hk
  have hb := h.lt
  have h0 := h.g0 (Gr.alloc W (.cells zc 30) _)
  have hb0 := heap_alloc_new W (.cells zc 30)
  have g0 : Gr (fun _ => False) W (W.alloc (.cells zc 30)) := Gr.alloc _ _ _
  have hz0 : (W.alloc (.cells zc 30)).heap.size = W.heap.size + 1 := by simp
  go_enter Tryz.func80, Tryz.ntmps80
  go_wp2_with fail
  generalize W.alloc (.cells zc 30) = W0 at h0 hb0 g0 hz0 ⊢
  obtain ⟨b, hbb⟩ : ∃ b, W.heap.size = b := ⟨_, rfl⟩
  have hbp : pb < b := by omega
  rw [hbb] at hb0 hz0 ⊢
  refine (hk0 _ h0).mono ?_
  rintro e w1 ⟨rfl, g1⟩
  have h1 := h0.g0 g1
  have hb1 := g1.keep hb0 (fun e => e)
  have hs1 := g1.size
  have hbl := h1.lt
  obtain ⟨⟨c0, c1, c2, c3⟩, k0, k1, k2, k3⟩ := h1.facts
  have hnb : w1.heap.size ≠ pb := by omega
  obtain ⟨⟨m0, m1, m2, m3, m4⟩, f0, f1, f2, f3, f4⟩ := five_cells hb1
  have hnb2 : w1.heap.size ≠ b := by omega
  have hbw : b < w1.heap.size := by omega
  have hnb3 : pb ≠ b := by omega
  go_wp2_with fail
  clear m0 m1 m2 m3 m4 f0 f1 f2 f3 f4 c0 c1 c2 c3 k0 k1 k2 k3
  obtain ⟨h2, g2⟩ := h1.step he hl
  generalize w1.setCell ⟨pb, 1, none⟩ (.int .i64 ((p.i : Int) + 1)) = w2 at h2 g2 ⊢
  have hbN := g2.keep hb1 (by omega)
  have gN : Gr (fun k => k = pb) W w2 := ((g0.any _).trans (g1.any _)).trans g2
  have rep : Rep (fun z => b + 1 ≤ z) w2 (.mk 1 e0 t.n [] []) (trv 1 e0 t.n nl nl) := ⟨nl, nl, [], rfl, .inl ⟨rfl, _, _, rfl⟩, .inl ⟨rfl, _, _, rfl⟩, rfl⟩
  obtain ⟨hf, r1, r2, r3⟩ := fin_tree hbN rep h2 hbp gN hbb
  have gF := Gr.alloc (set5 w2 b (.int .i64 1) (.string e0) (.int .i64 t.n) nl nl) (.cells #[.int .i64 t.k, .string t.s, .int .i64 t.n, .slice va vn vc, .int .i64 t.o] 27) (fun _ => False)
  obtain ⟨⟨m0, m1, m2, m3, m4⟩, _⟩ := five_cells (gF.keep hf (fun e => e))
  exact bodyPost_ret (v := trv 1 e0 t.n nl nl) (by simp [results, Tryz.results80, go_sem, m0, m1, m2, m3, m4]) rfl ⟨_, rfl, r1.g0 gF, r2.g0 gF, ⟨rfl, Nat.le_succ _⟩, r3.trans (gF.any _)⟩
set_option maxRecDepth 100000 in
set_option maxHeartbeats 1600000 in
theorem prim_bytes (h : Pz x W pb p) (hk : (pkT x.ts p).k = 4) : Calls Tryz.prog 80 #[pt pb] W fun e w' => EndR x W pb p e w' (.mk 4 e0 0 (pkT x.ts p).b [], p.next) := by
  have hk0 := fun w hp => gpeek_c (x := x) (W := w) (pb := pb) (p := p) hp
  obtain ⟨va, vn, vc, hv⟩ := h.tokB
  rw [hv] at hk0
  obtain ⟨he, hl, ht, hrow, _⟩ := h.at (lt_of_kind (x := x) (p := p) (by rw [hk]; decide))
  have hbl0 := h.hB _ (List.mem_of_getElem? ht)
  have hi2 : (p.i : Int) ≤ 100000 := by have := h.hi; have := h.hm; omega
  have hNp := h.hN
  rw [hv] at hrow
  clear ht
  generalize pkT x.ts p = t at hk0 hk hrow hbl0 ⊢
  have q1 : (t.k == 1) = false := by simp [hk]
  have q2 : (t.k == 4) = true := by simp [hk]
  clear hk
  replace hbl0 := Lib.hid hbl0
  have hb := h.lt
  have h0 := h.g0 (Gr.alloc W (.cells zc 30) _)
  have hb0 := heap_alloc_new W (.cells zc 30)
  have g0 : Gr (fun _ => False) W (W.alloc (.cells zc 30)) := Gr.alloc _ _ _
  have hz0 : (W.alloc (.cells zc 30)).heap.size = W.heap.size + 1 := by simp
  go_enter Tryz.func80, Tryz.ntmps80
  go_wp2_with fail
  generalize W.alloc (.cells zc 30) = W0 at h0 hb0 g0 hz0 ⊢
  obtain ⟨b, hbb⟩ : ∃ b, W.heap.size = b := ⟨_, rfl⟩
  have hbp : pb < b := by omega
  rw [hbb] at hb0 hz0 ⊢
  refine (hk0 _ h0).mono ?_
  rintro e w1 ⟨rfl, g1⟩
  have h1 := h0.g0 g1
  have hb1 := g1.keep hb0 (fun e => e)
  have hs1 := g1.size
  have hbl := h1.lt
  obtain ⟨⟨c0, c1, c2, c3⟩, k0, k1, k2, k3⟩ := h1.facts
  have hnb : w1.heap.size ≠ pb := by omega
  obtain ⟨⟨m0, m1, m2, m3, m4⟩, f0, f1, f2, f3, f4⟩ := five_cells hb1
  have hnb2 : w1.heap.size ≠ b := by omega
  have hbw : b < w1.heap.size := by omega
  have hnb3 : pb ≠ b := by omega
  obtain ⟨h2, g2⟩ := h1.step he hl
  go_wp2_with fail
  generalize w1.setCell ⟨pb, 1, none⟩ (.int .i64 ((p.i : Int) + 1)) = w2 at h2 g2 ⊢
  have G3 : Gr (fun k => k = pb) W w2 := ((g0.any _).trans (g1.any _)).trans g2
  have G4 := Gr.alloc w2 (.cells #[.int .i64 t.k, .string t.s, .int .i64 t.n, .slice va vn vc, .int .i64 t.o] 27) (fun _ => False)
  have hz4 : (w2.alloc (.cells #[.int .i64 t.k, .string t.s, .int .i64 t.n, .slice va vn vc, .int .i64 t.o] 27)).heap.size = w2.heap.size + 1 := by simp
  generalize w2.alloc (.cells #[.int .i64 t.k, .string t.s, .int .i64 t.n, .slice va vn vc, .int .i64 t.o] 27) = w3 at G4 hz4 ⊢
  have hs2 := g2.size
  have hrow3 : RowB (fun k => k < x.N) w3 t.b (.slice va vn vc) := hrow.turn (fun k hk hl => ⟨hk, (G3.trans (G4.any _)).block k hl (by omega)⟩)
  refine (bclone_c w3 _ t.b _ hrow3 hbl0.out).mono ?_
  rintro e w4 ⟨v', rfl, rowN, g4⟩
  obtain ⟨ba, bc, rfl⟩ := rowN.sv
  have hbN := g4.keep (G4.keep (g2.keep hb1 (by omega)) (fun e => e)) (fun e => e)
  clear m0 m1 m2 m3 m4 f0 f1 f2 f3 f4 c0 c1 c2 c3 k0 k1 k2 k3
  obtain ⟨⟨m0, m1, m2, m3, m4⟩, f0, f1, f2, f3, f4⟩ := five_cells hbN
  have hN := (h2.g0 G4).g0 g4
  have hbl2 := hN.lt
  go_wp2_with fail
  have gN : Gr (fun k => k = pb) W w4 := (G3.trans (G4.any _)).trans (g4.any _)
  have rep : Rep (fun z => b + 1 ≤ z) w4 (.mk 4 e0 0 t.b []) (trv 4 e0 0 (.slice ba t.b.length bc) nl) := ⟨_, nl, [], rfl, rowN.turn (fun z hz hl => ⟨by omega, rfl⟩), .inl ⟨rfl, _, _, rfl⟩, rfl⟩
  obtain ⟨hf, r1, r2, r3⟩ := fin_tree hbN rep hN hbp gN hbb
  clear m0 m1 m2 m3 m4
  obtain ⟨⟨m0, m1, m2, m3, m4⟩, _⟩ := five_cells hf
  exact bodyPost_ret (v := trv 4 e0 0 (.slice ba t.b.length bc) nl) (by simp [results, Tryz.results80, go_sem, m0, m1, m2, m3, m4]) rfl ⟨_, rfl, r1, r2, ⟨rfl, Nat.le_succ _⟩, r3⟩
set_option maxRecDepth 100000 in
set_option maxHeartbeats 1600000 in
theorem prim_var (d : Nat) (ex un : Rule) (hsub : Sub x d ex un) (h : Pz x W pb p) (hd : p.d = d) (q1 : ((pkT x.ts p).k == 1) = false) (q4 : ((pkT x.ts p).k == 4) = false) (q3 : ((pkT x.ts p).k == 3) = true) : Calls Tryz.prog 80 #[pt pb] W fun e w' => EndR x W pb p e w' (varV x.ts p) := by
  have hk0 := fun w hp => gpeek_c (x := x) (W := w) (pb := pb) (p := p) hp
  obtain ⟨va, vn, vc, hv⟩ := h.tokB
  rw [hv] at hk0
  generalize pkT x.ts p = t at hk0 q1 q4 q3
  have hb := h.lt
  have h0 := h.g0 (Gr.alloc W (.cells zc 30) _)
  have hb0 := heap_alloc_new W (.cells zc 30)
  have g0 : Gr (fun _ => False) W (W.alloc (.cells zc 30)) := Gr.alloc _ _ _
  have hz0 : (W.alloc (.cells zc 30)).heap.size = W.heap.size + 1 := by simp
  go_enter Tryz.func80, Tryz.ntmps80
  go_wp2_with fail
  generalize W.alloc (.cells zc 30) = W0 at h0 hb0 g0 hz0 ⊢
  obtain ⟨b, hbb⟩ : ∃ b, W.heap.size = b := ⟨_, rfl⟩
  have hbp : pb < b := by omega
  rw [hbb] at hb0 hz0 ⊢
  refine (hk0 _ h0).mono ?_
  rintro e w1 ⟨rfl, g1⟩
  have h1 := h0.g0 g1
  have hb1 := g1.keep hb0 (fun e => e)
  have hs1 := g1.size
  have hbl := h1.lt
  go_wp2_with fail
  have G2 := Gr.alloc w1 (.cells #[.int .i64 t.k, .string t.s, .int .i64 t.n, .slice va vn vc, .int .i64 t.o] 27) (fun _ => False)
  generalize w1.alloc (.cells #[.int .i64 t.k, .string t.s, .int .i64 t.n, .slice va vn vc, .int .i64 t.o] 27) = w2 at G2 ⊢
  have hs2 := G2.size
  refine ((gvar_c d).2 w2 pb p (h1.g0 G2) hd).mono ?_
  rintro e w4 ⟨v, rfl, rep4, h4, ⟨hd4, hi4⟩, g4⟩
  obtain ⟨tk, tt, tn, a1, n1, c1, a2, n2, c2, rfl⟩ := rep4.agg
  have hbN := g4.keep (G2.keep hb1 (fun e => e)) (by omega)
  obtain ⟨⟨m0, m1, m2, m3, m4⟩, f0, f1, f2, f3, f4⟩ := five_cells hbN
  have hbl2 := h4.lt
  go_wp2_with fail
  have gN : Gr (fun k => k = pb) W w4 := ((g0.any _).trans (g1.any _)).trans ((G2.any _).trans g4)
  have rep := rep4.mono (base' := b + 1) (by omega)
  have hN := h4
  obtain ⟨hf, r1, r2, r3⟩ := fin_tree hbN rep hN hbp gN hbb
  clear m0 m1 m2 m3 m4
  obtain ⟨⟨m0, m1, m2, m3, m4⟩, _⟩ := five_cells hf
  exact bodyPost_ret (v := trv tk tt tn (.slice a1 n1 c1) (.slice a2 n2 c2)) (by simp [results, Tryz.results80, go_sem, m0, m1, m2, m3, m4]) rfl ⟨_, rfl, r1, r2, ⟨hd4, hi4⟩, r3⟩
set_option maxRecDepth 100000 in
set_option maxHeartbeats 1600000 in
theorem prim_atom (d : Nat) (ex un : Rule) (hsub : Sub x d ex un) (h : Pz x W pb p) (hd : p.d = d) (q1 : ((pkT x.ts p).k == 1) = false) (q4 : ((pkT x.ts p).k == 4) = false) (q3 : ((pkT x.ts p).k == 3) = false) (q2 : ((pkT x.ts p).k == 2) = true) : Calls Tryz.prog 80 #[pt pb] W fun e w' => EndR x W pb p e w' (atomV x.ts ex p) := by
  have hk0 := fun w hp => gpeek_c (x := x) (W := w) (pb := pb) (p := p) hp
  obtain ⟨va, vn, vc, hv⟩ := h.tokB
  rw [hv] at hk0
  generalize pkT x.ts p = t at hk0 q1 q4 q3 q2
  have hb := h.lt
  have h0 := h.g0 (Gr.alloc W (.cells zc 30) _)
  have hb0 := heap_alloc_new W (.cells zc 30)
  have g0 : Gr (fun _ => False) W (W.alloc (.cells zc 30)) := Gr.alloc _ _ _
  have hz0 : (W.alloc (.cells zc 30)).heap.size = W.heap.size + 1 := by simp
  go_enter Tryz.func80, Tryz.ntmps80
  go_wp2_with fail
  generalize W.alloc (.cells zc 30) = W0 at h0 hb0 g0 hz0 ⊢
  obtain ⟨b, hbb⟩ : ∃ b, W.heap.size = b := ⟨_, rfl⟩
  have hbp : pb < b := by omega
  rw [hbb] at hb0 hz0 ⊢
  refine (hk0 _ h0).mono ?_
  rintro e w1 ⟨rfl, g1⟩
  have h1 := h0.g0 g1
  have hb1 := g1.keep hb0 (fun e => e)
  have hs1 := g1.size
  have hbl := h1.lt
  go_wp2_with fail
  have G2 := Gr.alloc w1 (.cells #[.int .i64 t.k, .string t.s, .int .i64 t.n, .slice va vn vc, .int .i64 t.o] 27) (fun _ => False)
  generalize w1.alloc (.cells #[.int .i64 t.k, .string t.s, .int .i64 t.n, .slice va vn vc, .int .i64 t.o] 27) = w2 at G2 ⊢
  have hs2 := G2.size
  refine ((atom_c d ex un hsub).2 w2 pb p (h1.g0 G2) hd).mono ?_
  rintro e w4 ⟨v, rfl, rep4, h4, ⟨hd4, hi4⟩, g4⟩
  obtain ⟨tk, tt, tn, a1, n1, c1, a2, n2, c2, rfl⟩ := rep4.agg
  have hbN := g4.keep (G2.keep hb1 (fun e => e)) (by omega)
  obtain ⟨⟨m0, m1, m2, m3, m4⟩, f0, f1, f2, f3, f4⟩ := five_cells hbN
  have hbl2 := h4.lt
  go_wp2_with fail
  have gN : Gr (fun k => k = pb) W w4 := ((g0.any _).trans (g1.any _)).trans ((G2.any _).trans g4)
  have rep := rep4.mono (base' := b + 1) (by omega)
  have hN := h4
  obtain ⟨hf, r1, r2, r3⟩ := fin_tree hbN rep hN hbp gN hbb
  clear m0 m1 m2 m3 m4
  obtain ⟨⟨m0, m1, m2, m3, m4⟩, _⟩ := five_cells hf
  exact bodyPost_ret (v := trv tk tt tn (.slice a1 n1 c1) (.slice a2 n2 c2)) (by simp [results, Tryz.results80, go_sem, m0, m1, m2, m3, m4]) rfl ⟨_, rfl, r1, r2, ⟨hd4, hi4⟩, r3⟩
set_option maxRecDepth 100000 in
set_option maxHeartbeats 1600000 in
theorem prim_nest (d : Nat) (ex un : Rule) (hsub : Sub x d ex un) (h : Pz x W pb p) (hd : p.d = d) (q1 : ((pkT x.ts p).k == 1) = false) (q4 : ((pkT x.ts p).k == 4) = false) (q3 : ((pkT x.ts p).k == 3) = false) (q2 : ((pkT x.ts p).k == 2) = false) : Calls Tryz.prog 80 #[pt pb] W fun e w' => EndR x W pb p e w' (nestV x.ts ex un p) := by
  have hk0 := fun w hp => gpeek_c (x := x) (W := w) (pb := pb) (p := p) hp
  obtain ⟨va, vn, vc, hv⟩ := h.tokB
  rw [hv] at hk0
  generalize pkT x.ts p = t at hk0 q1 q4 q3 q2
  have hb := h.lt
  have h0 := h.g0 (Gr.alloc W (.cells zc 30) _)
  have hb0 := heap_alloc_new W (.cells zc 30)
  have g0 : Gr (fun _ => False) W (W.alloc (.cells zc 30)) := Gr.alloc _ _ _
  have hz0 : (W.alloc (.cells zc 30)).heap.size = W.heap.size + 1 := by simp
  go_enter Tryz.func80, Tryz.ntmps80
  go_wp2_with fail
  generalize W.alloc (.cells zc 30) = W0 at h0 hb0 g0 hz0 ⊢
  obtain ⟨b, hbb⟩ : ∃ b, W.heap.size = b := ⟨_, rfl⟩
  have hbp : pb < b := by omega
  rw [hbb] at hb0 hz0 ⊢
  refine (hk0 _ h0).mono ?_
  rintro e w1 ⟨rfl, g1⟩
  have h1 := h0.g0 g1
  have hb1 := g1.keep hb0 (fun e => e)
  have hs1 := g1.size
  have hbl := h1.lt
  go_wp2_with fail
  have G2 := Gr.alloc w1 (.cells #[.int .i64 t.k, .string t.s, .int .i64 t.n, .slice va vn vc, .int .i64 t.o] 27) (fun _ => False)
  generalize w1.alloc (.cells #[.int .i64 t.k, .string t.s, .int .i64 t.n, .slice va vn vc, .int .i64 t.o] 27) = w2 at G2 ⊢
  have hs2 := G2.size
  refine ((nest_c d ex un hsub).2 w2 pb p (h1.g0 G2) hd).mono ?_
  rintro e w4 ⟨v, rfl, rep4, h4, ⟨hd4, hi4⟩, g4⟩
  obtain ⟨tk, tt, tn, a1, n1, c1, a2, n2, c2, rfl⟩ := rep4.agg
  have hbN := g4.keep (G2.keep hb1 (fun e => e)) (by omega)
  obtain ⟨⟨m0, m1, m2, m3, m4⟩, f0, f1, f2, f3, f4⟩ := five_cells hbN
  have hbl2 := h4.lt
  go_wp2_with fail
  have gN : Gr (fun k => k = pb) W w4 := ((g0.any _).trans (g1.any _)).trans ((G2.any _).trans g4)
  have rep := rep4.mono (base' := b + 1) (by omega)
  have hN := h4
  obtain ⟨hf, r1, r2, r3⟩ := fin_tree hbN rep hN hbp gN hbb
  clear m0 m1 m2 m3 m4
  obtain ⟨⟨m0, m1, m2, m3, m4⟩, _⟩ := five_cells hf
  exact bodyPost_ret (v := trv tk tt tn (.slice a1 n1 c1) (.slice a2 n2 c2)) (by simp [results, Tryz.results80, go_sem, m0, m1, m2, m3, m4]) rfl ⟨_, rfl, r1, r2, ⟨hd4, hi4⟩, r3⟩
theorem prim_c (d : Nat) (ex un : Rule) (hsub : Sub x d ex un) : RuleOk x 80 d (primV x.ts ex un) := by
  refine ⟨ent_of Tryz.func80 (by kernel_rfl) rfl, fun W pb p h hd => ?_⟩
  rw [primV]
  by_cases k1 : (pkT x.ts p).k = 1
  · rw [if_pos k1]; exact prim_int h k1
  rw [if_neg k1]
  by_cases k4 : (pkT x.ts p).k = 4
  · rw [if_pos k4]; exact prim_bytes h k4
  rw [if_neg k4]
  by_cases k3 : (pkT x.ts p).k = 3
  · rw [if_pos k3]; exact prim_var d ex un hsub h hd (by simpa using k1) (by simpa using k4) (by simpa using k3)
  rw [if_neg k3]
  by_cases k2 : (pkT x.ts p).k = 2
  · rw [if_pos k2]; exact prim_atom d ex un hsub h hd (by simpa using k1) (by simpa using k4) (by simpa using k3) (by simpa using k2)
  rw [if_neg k2]
  exact prim_nest d ex un hsub h hd (by simpa using k1) (by simpa using k4) (by simpa using k3) (by simpa using k2)

def unaryV (ts : List Tn) (ex un : Rule) (p : Ps) : Tr × Ps := if isV ts p mns = true then (.mk 7 e0 0 [] [(deeperV un p).1], (deeperV un p).2) else primV ts ex un p
set_option maxRecDepth 100000 in
set_option maxHeartbeats 1600000 in
theorem unary_neg (d : Nat) (ex un : Rule) (hsub : Sub x d ex un) (h : Pz x W pb p) (hd : p.d = d) (q0 : isV x.ts p mns = true) : Calls Tryz.prog 71 #[pt pb] W fun e w' => EndR x W pb p e w' (.mk 7 e0 0 [] [(deeperV un p).1], (deeperV un p).2) := by
  obtain ⟨hlc, he, hl⟩ := isV_lt q0
  have hb := h.lt
  have h0 := h.g0 (Gr.alloc W (.cells zc 30) _)
  have hb0 := heap_alloc_new W (.cells zc 30)
  have g0 : Gr (fun _ => False) W (W.alloc (.cells zc 30)) := Gr.alloc _ _ _
  have hz0 : (W.alloc (.cells zc 30)).heap.size = W.heap.size + 1 := by simp
  go_enter Tryz.func71, Tryz.ntmps71
  go_wp2_with fail
  generalize W.alloc (.cells zc 30) = W0 at h0 hb0 g0 hz0 ⊢
  obtain ⟨b, hbb⟩ : ∃ b, W.heap.size = b := ⟨_, rfl⟩
  have hbp : pb < b := by omega
  rw [hbb] at hb0 hz0 ⊢
  have hk := is_c h0 mns
  rw [q0] at hk
  refine hk.mono ?_
  rintro e w1 ⟨rfl, g1⟩
  have h1 := h0.g0 g1
  have hs1 := g1.size
  have hdp := deeper_c (pb := pb) (p := p) 71 un (ent_of Tryz.func71 (by kernel_rfl) rfl) h1 he hl (fun W' hP hG => by
    have hd2 : p.d + 1 ≤ 40 := hP.hd
    exact (hsub (by omega)).2.2 W' pb p.deep hP (by show p.d + 1 = d + 1; omega))
  go_wp2_with fail
  refine hdp.mono ?_
  rintro e w2 ⟨v, rfl, rep2, h2, ⟨hd2, hi2⟩, g2⟩
  obtain ⟨tk, tt, tn, a1, n1, c1, a2, n2, c2, rfl⟩ := rep2.agg
  have hs2 := g2.size
  have hbl := h2.lt
  have L3 := Lr.lit1 (rep2.mono (base' := b + 1) (by omega)) (by omega)
  have G3 := Gr.alloc w2 (.cells #[.int .i64 tk, .string tt, .int .i64 tn, .slice a1 n1 c1, .slice a2 n2 c2] 30) (fun _ => False)
  go_wp2_with fail
  generalize w2.alloc _ = w3 at L3 G3 ⊢
  refine (node_c w3 7 e0 _ 1 1).mono ?_
  rintro e w4 ⟨rfl, g4⟩
  have hbN := g4.keep (G3.keep (g2.keep (g1.keep hb0 (fun e => e)) (by omega)) (fun e => e)) (fun e => e)
  obtain ⟨⟨m0, m1, m2, m3, m4⟩, f0, f1, f2, f3, f4⟩ := five_cells hbN
  go_wp2_with fail
  have gN : Gr (fun k => k = pb) W w4 := ((((g0.any _).trans (g1.any _)).trans g2).trans (G3.any _)).trans (g4.any _)
  have rep := (L3.g0 g4).tree 7 e0
  have hN := (h2.g0 G3).g0 g4
  obtain ⟨hf, r1, r2, r3⟩ := fin_tree hbN rep hN hbp gN hbb
  clear m0 m1 m2 m3 m4
  obtain ⟨⟨m0, m1, m2, m3, m4⟩, _⟩ := five_cells hf
  exact bodyPost_ret (v := trv 7 e0 0 nl (.slice (some ⟨w2.heap.size, 0, none⟩) 1 1)) (by simp [results, Tryz.results71, go_sem, m0, m1, m2, m3, m4]) rfl ⟨_, rfl, r1, r2, ⟨hd2, hi2⟩, r3⟩
set_option maxRecDepth 100000 in
set_option maxHeartbeats 1600000 in
theorem unary_prim (d : Nat) (ex un : Rule) (hsub : Sub x d ex un) (h : Pz x W pb p) (hd : p.d = d) (q0 : isV x.ts p mns = false) : Calls Tryz.prog 71 #[pt pb] W fun e w' => EndR x W pb p e w' (primV x.ts ex un p) := by
  have hb := h.lt
  have h0 := h.g0 (Gr.alloc W (.cells zc 30) _)
  have hb0 := heap_alloc_new W (.cells zc 30)
  have g0 : Gr (fun _ => False) W (W.alloc (.cells zc 30)) := Gr.alloc _ _ _
  have hz0 : (W.alloc (.cells zc 30)).heap.size = W.heap.size + 1 := by simp
  go_enter Tryz.func71, Tryz.ntmps71
  go_wp2_with fail
  generalize W.alloc (.cells zc 30) = W0 at h0 hb0 g0 hz0 ⊢
  obtain ⟨b, hbb⟩ : ∃ b, W.heap.size = b := ⟨_, rfl⟩
  have hbp : pb < b := by omega
  rw [hbb] at hb0 hz0 ⊢
  have hk := is_c h0 mns
  rw [q0] at hk
  refine hk.mono ?_
  rintro e w1 ⟨rfl, g1⟩
  have h1 := h0.g0 g1
  have hs1 := g1.size
  go_wp2_with fail
  refine ((prim_c d ex un hsub).2 w1 pb p h1 hd).mono ?_
  rintro e w2 ⟨v, rfl, rep2, h2, ⟨hd2, hi2⟩, g2⟩
  obtain ⟨tk, tt, tn, a1, n1, c1, a2, n2, c2, rfl⟩ := rep2.agg
  have hbl := h2.lt
  have hbN := g2.keep (g1.keep hb0 (fun e => e)) (by omega)
  obtain ⟨⟨m0, m1, m2, m3, m4⟩, f0, f1, f2, f3, f4⟩ := five_cells hbN
  go_wp2_with fail
  have gN : Gr (fun k => k = pb) W w2 := ((g0.any _).trans (g1.any _)).trans g2
  have rep := rep2.mono (base' := b + 1) (by omega)
  have hN := h2
  obtain ⟨hf, r1, r2, r3⟩ := fin_tree hbN rep hN hbp gN hbb
  clear m0 m1 m2 m3 m4
  obtain ⟨⟨m0, m1, m2, m3, m4⟩, _⟩ := five_cells hf
  exact bodyPost_ret (v := trv tk tt tn (.slice a1 n1 c1) (.slice a2 n2 c2)) (by simp [results, Tryz.results71, go_sem, m0, m1, m2, m3, m4]) rfl ⟨_, rfl, r1, r2, ⟨hd2, hi2⟩, r3⟩
theorem unary_c (d : Nat) (ex un : Rule) (hsub : Sub x d ex un) : RuleOk x 71 d (unaryV x.ts ex un) := by
  refine ⟨ent_of Tryz.func71 (by kernel_rfl) rfl, fun W pb p h hd => ?_⟩
  rw [unaryV]
  cases q0 : isV x.ts p mns with
  | true => rw [if_pos rfl]; exact unary_neg d ex un hsub h hd q0
  | false => rw [if_neg (by decide)]; exact unary_prim d ex un hsub h hd q0
end Go.Proofs.YtggkjkkbkpnkiaaGreatDoor


