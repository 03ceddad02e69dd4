/-
  A part that is neither a list, a tuple nor bytes.
-/
import Derived.Test.YtdmichjhmfinpaaGreatDoorV
set_option linter.unusedVariables false
set_option linter.unusedSimpArgs false
namespace Go.Proofs.YtdmichjhmfinpaaGreatDoor
open Go.RowKit Go.Maps

/-- A term without elements and bytes. -/
structure Lf where
  k : Int
  n : Int := 0
  x : Nat := 0
  y : Nat := 0
  s : ByteArray := e0
  a : Int := 0
  c : Int := 0
  d : Int := 0
abbrev Lf.val (t : Lf) : Value := lf t.k t.n t.x t.y t.s t.a t.c t.d

/-- Behind the sign #: the term, whether its value may be, where it ends. -/
def mrk (s : ByteArray) (i : Nat) : Except Nat (Lf × Bool × Nat) :=
  if pk s i = 99 then (match cxs s (i + 1) with
    | .error j => .error j
    | .ok (p, q, j) => .ok ({ k := 2, x := p.toNat, y := q.toNat }, rp p.toNat && rp q.toNat, j))
  else if pk s i = 114 then (match ids s (i + 1) with
    | .error j => .error j
    | .ok (a, c, d, j) => .ok ({ k := 4, a := a, c := c, d := d }, idOk a c d, j))
  else if pk s i = 112 then (match ids s (i + 1) with
    | .error j => .error j
    | .ok (a, c, d, j) => .ok ({ k := 5, a := a, c := c, d := d }, idOk a c d, j))
  else .error i
def sgl (s : ByteArray) (i : Nat) : Except Nat (Lf × Bool × Nat) :=
  if pk s i = 45 ∨ dig (pk s i) = true then (match itg s i with
    | .error j => .error j
    | .ok (v, j) => .ok ({ k := 1, n := v }, inR v, j))
  else if low (pk s i) = true then .ok ({ k := 3, s := s.extract i (span inN s i) }, decide (span inN s i - i ≤ 32), span inN s i)
  else if pk s i = 35 then mrk s (i + 1)
  else .error i
def EndL (W : World) (b : Nat) (s : ByteArray) (n : Nat) (e : Ending) (w' : World) : Except Nat (Lf × Bool × Nat) → Prop
  | .ok (t, _, j) => e = .returned t.val ∧ St W b s w' j n
  | .error j => e = gives j 41 ∧ Gr (fun k => k = b) W w'

theorem nine {W : World} {g : Nat} {x0 x1 x2 x3 x4 x5 x6 x7 x8 : Value} (h : W.heap[g]? = some (.cells #[x0, x1, x2, x3, x4, x5, x6, x7, x8] 31 (0, 0))) :
    (W.cell? ⟨g, 0, none⟩ = some x0 ∧ W.cell? ⟨g, 1, none⟩ = some x1 ∧ W.cell? ⟨g, 2, none⟩ = some x2 ∧ W.cell? ⟨g, 3, none⟩ = some x3 ∧ W.cell? ⟨g, 4, none⟩ = some x4 ∧ W.cell? ⟨g, 5, none⟩ = some x5 ∧ W.cell? ⟨g, 6, none⟩ = some x6 ∧ W.cell? ⟨g, 7, none⟩ = some x7 ∧ W.cell? ⟨g, 8, none⟩ = some x8) ∧
    (∀ o, W.frozen? ⟨g, o, none⟩ = false) := by
  simp [World.cell?, World.frozen?, h]
theorem Gr.set9 {S : Nat → Prop} {W W' : World} {g : Nat} (h : Gr S W W') (hg : W.heap.size ≤ g) (v0 v1 v2 v3 v4 v5 v6 v7 v8 : Value) :
    Gr S W (((((((((W'.setCell ⟨g, 0, none⟩ v0).setCell ⟨g, 1, none⟩ v1).setCell ⟨g, 2, none⟩ v2).setCell ⟨g, 3, none⟩ v3).setCell ⟨g, 4, none⟩ v4).setCell ⟨g, 5, none⟩ v5).setCell ⟨g, 6, none⟩ v6).setCell ⟨g, 7, none⟩ v7).setCell ⟨g, 8, none⟩ v8) :=
  ((((((((h.setNew hg).setNew hg).setNew hg).setNew hg).setNew hg).setNew hg).setNew hg).setNew hg).setNew hg
theorem own1 (W : World) (g o : Nat) (v : Value) : Gr (fun k => k = g) W (W.setCell ⟨g, o, none⟩ v) := Gr.set _ _ _ rfl
theorem Gr.own9 (W' : World) (g : Nat) (v0 v1 v2 v3 v4 v5 v6 v7 v8 : Value) :
    Gr (fun k => k = g) W' (((((((((W'.setCell ⟨g, 0, none⟩ v0).setCell ⟨g, 1, none⟩ v1).setCell ⟨g, 2, none⟩ v2).setCell ⟨g, 3, none⟩ v3).setCell ⟨g, 4, none⟩ v4).setCell ⟨g, 5, none⟩ v5).setCell ⟨g, 6, none⟩ v6).setCell ⟨g, 7, none⟩ v7).setCell ⟨g, 8, none⟩ v8) :=
  ((((((((own1 _ _ _ _).trans (own1 _ _ _ _)).trans (own1 _ _ _ _)).trans (own1 _ _ _ _)).trans (own1 _ _ _ _)).trans (own1 _ _ _ _)).trans (own1 _ _ _ _)).trans (own1 _ _ _ _)).trans (own1 _ _ _ _)
theorem ref_c (a c d : Int) (W : World) : Calls Tryz.prog 117 #[idV a c d] W fun e w' => e = .returned (lf 4 0 0 0 e0 a c d) ∧ Gr (fun _ => False) W w' := by
  go_enter Tryz.func117, Tryz.ntmps117
  go_wp2
  exact bodyPost_ret (v := lf 4 0 0 0 e0 a c d) (by simp [results, Tryz.results117, go_sem]) rfl ⟨rfl, (Gr.alloc _ _ _).trans (Gr.alloc _ _ _)⟩
theorem pid_c (a c d : Int) (W : World) : Calls Tryz.prog 119 #[idV a c d] W fun e w' => e = .returned (lf 5 0 0 0 e0 a c d) ∧ Gr (fun _ => False) W w' := by
  go_enter Tryz.func119, Tryz.ntmps119
  go_wp2
  exact bodyPost_ret (v := lf 5 0 0 0 e0 a c d) (by simp [results, Tryz.results119, go_sem]) rfl ⟨rfl, (Gr.alloc _ _ _).trans (Gr.alloc _ _ _)⟩
theorem int_c (n : Int) (W : World) : Calls Tryz.prog 12 #[.int .i64 n] W fun e w' => e = .returned (lf 1 n 0 0 e0 0 0 0) ∧ Gr (fun _ => False) W w' := by
  go_enter Tryz.func12, Tryz.ntmps12
  go_wp2
  exact bodyPost_ret (v := lf 1 n 0 0 e0 0 0 0) (by simp [results, Tryz.results12, go_sem]) rfl ⟨rfl, Gr.alloc _ _ _⟩
theorem atom_c (t : ByteArray) (W : World) : Calls Tryz.prog 13 #[.string t] W fun e w' => e = .returned (lf 3 0 0 0 t 0 0 0) ∧ Gr (fun _ => False) W w' := by
  go_enter Tryz.func13, Tryz.ntmps13
  go_wp2
  exact bodyPost_ret (v := lf 3 0 0 0 t 0 0 0) (by simp [results, Tryz.results13, go_sem]) rfl ⟨rfl, Gr.alloc _ _ _⟩

set_option maxRecDepth 100000 in
set_option maxHeartbeats 1600000 in
theorem marked_c (W : World) (b : Nat) (s : ByteArray) (i n : Nat) (h : Rd W b s i n) (hs : s.size ≤ 65536) (hi : i ≤ s.size) (hE : Er W) (hb4 : b ≠ 4) :
    Calls Tryz.prog 95 #[pt b] W fun e w' => EndL W b s n e w' (mrk s i) := by
  have hb := h.lt
  have hi2 : (i : Int) ≤ 65536 := by omega
  obtain ⟨r, hr⟩ : ∃ r, r = mrk s i := ⟨_, rfl⟩
  rw [← hr]
  have Hr := Lib.hid hr
  clear hr
  obtain ⟨c, hc⟩ : ∃ c, pk s i = c := ⟨_, rfl⟩
  have hp := fun W h => peek_c W b s i n h hi
  rw [hc] at hp
  have Hc := Lib.hid hc
  clear hc
  by_cases h1 : c = 99
  · subst h1
    have hlt : i < s.size := lt_of_pk (by rw [Hc.out]; decide)
    go_enter Tryz.func95, Tryz.ntmps95
    go_wp2_with fail
    generalize hW1 : W.alloc _ = W1
    have hg1 : Gr (fun k => k = b) W W1 := hW1 ▸ Gr.alloc _ _ _
    have hr1 : Rd W1 b s i n := hW1 ▸ h.gr (Gr.alloc _ _ (fun _ => False)) (fun e => e)
    have hc1 : W1.heap[W.heap.size]? = some (.cells #[.int .i64 0, .int .i64 0, .complex .f64 0 0, .string e0, .int .i64 0, .int .u32 0, .int .u64 0, nl, nl] 31 (0, 0)) := hW1 ▸ heap_alloc_new W _
    obtain ⟨g, hgg⟩ : ∃ g, g = W.heap.size := ⟨_, rfl⟩
    rw [← hgg] at hc1 ⊢
    have hgn : W.heap.size ≤ g := by omega
    have hgb : ¬ (g = b) := by omega
    clear hW1 hgg
    refine (hp _ hr1).mono ?_
    rintro e w2 ⟨rfl, hs2⟩
    obtain ⟨k0, k1, k2, l0, l1, l2⟩ := hs2.1.facts
    have hs3 := hs2.1.setAt (i + 1)
    have hg3 := (hg1.trans hs2.2).trans (Gr.set (S := fun k => k = b) w2 ⟨b, 1, none⟩ (.int .i64 ((i + 1 : Nat) : Int)) rfl)
    have hc3 := (Gr.set (S := fun k => k = b) w2 ⟨b, 1, none⟩ (.int .i64 ((i + 1 : Nat) : Int)) rfl).keep (hs2.2.keep hc1 hgb) hgb
    have hE3 := hE.gr hg3 (Ne.symm hb4)
    go_wp2_with fail
    have hcx := cx_c _ b s (i + 1) n hs3 hs (by omega)
    cases hq : cxs s (i + 1) with
    | error j =>
      rw [hq] at hcx
      refine hcx.mono ?_
      rintro e w4 ⟨rfl, hg4⟩
      have e : r = .error j := by rw [Hr.out, mrk, if_pos Hc.out, hq]
      subst e
      exact ⟨rfl, rfl, hg3.trans hg4⟩
    | ok v =>
      obtain ⟨p, q, j⟩ := v
      rw [hq] at hcx
      refine hcx.mono ?_
      rintro e w4 ⟨rfl, hs4⟩
      have e : r = .ok ({ k := 2, x := p.toNat, y := q.toNat }, rp p.toNat && rp q.toNat, j) := by rw [Hr.out, mrk, if_pos Hc.out, hq]
      subst e
      have hc9 := hs4.2.keep hc3 hgb
      have hr9 := hs4.1
      have hg9 := hg3.trans hs4.2
      obtain ⟨⟨m0, m1, m2, m3, m4, m5, m6, m7, m8⟩, mf⟩ := nine hc9
      go_wp2_with fail
      exact bodyPost_ret (v := lf 2 0 p.toNat q.toNat e0 0 0 0) (by simp [results, Tryz.results95, go_sem, m0, m1, m2, m3, m4, m5, m6, m7, m8]) rfl ⟨rfl, hr9.gr (Gr.own9 _ _ _ _ _ _ _ _ _ _ _) (fun e => hgb e.symm), hg9.set9 hgn _ _ _ _ _ _ _ _ _⟩
  by_cases h2 : c = 114
  · subst h2
    have hlt : i < s.size := lt_of_pk (by rw [Hc.out]; decide)
    go_enter Tryz.func95, Tryz.ntmps95
    go_wp2_with fail
    generalize hW1 : W.alloc _ = W1
    have hg1 : Gr (fun k => k = b) W W1 := hW1 ▸ Gr.alloc _ _ _
    have hr1 : Rd W1 b s i n := hW1 ▸ h.gr (Gr.alloc _ _ (fun _ => False)) (fun e => e)
    have hc1 : W1.heap[W.heap.size]? = some (.cells #[.int .i64 0, .int .i64 0, .complex .f64 0 0, .string e0, .int .i64 0, .int .u32 0, .int .u64 0, nl, nl] 31 (0, 0)) := hW1 ▸ heap_alloc_new W _
    obtain ⟨g, hgg⟩ : ∃ g, g = W.heap.size := ⟨_, rfl⟩
    rw [← hgg] at hc1 ⊢
    have hgn : W.heap.size ≤ g := by omega
    have hgb : ¬ (g = b) := by omega
    clear hW1 hgg
    refine (hp _ hr1).mono ?_
    rintro e w2 ⟨rfl, hs2⟩
    obtain ⟨k0, k1, k2, l0, l1, l2⟩ := hs2.1.facts
    have hs3 := hs2.1.setAt (i + 1)
    have hg3 := (hg1.trans hs2.2).trans (Gr.set (S := fun k => k = b) w2 ⟨b, 1, none⟩ (.int .i64 ((i + 1 : Nat) : Int)) rfl)
    have hc3 := (Gr.set (S := fun k => k = b) w2 ⟨b, 1, none⟩ (.int .i64 ((i + 1 : Nat) : Int)) rfl).keep (hs2.2.keep hc1 hgb) hgb
    have hE3 := hE.gr hg3 (Ne.symm hb4)
    go_wp2_with fail
    have hid := id_c _ b s (i + 1) n hs3 hs (by omega) hE3 hb4
    cases hq : ids s (i + 1) with
    | error j =>
      rw [hq] at hid
      refine hid.mono ?_
      rintro e w4 ⟨rfl, hg4⟩
      have e : r = .error j := by rw [Hr.out, mrk, if_neg (by rw [Hc.out]; decide), if_pos Hc.out, hq]
      subst e
      exact ⟨rfl, rfl, hg3.trans hg4⟩
    | ok v =>
      obtain ⟨a, c, d, j⟩ := v
      rw [hq] at hid
      refine hid.mono ?_
      rintro e w4 ⟨rfl, hs4⟩
      have e : r = .ok ({ k := 4, a := a, c := c, d := d }, idOk a c d, j) := by rw [Hr.out, mrk, if_neg (by rw [Hc.out]; decide), if_pos Hc.out, hq]
      subst e
      go_wp2_with fail
      refine (ref_c a c d _).mono ?_
      rintro e w5 ⟨rfl, hg5⟩
      have hc9 := hg5.keep (hs4.2.keep hc3 hgb) (fun e => e)
      have hr9 := hs4.1.gr hg5 (fun e => e)
      have hg9 := (hg3.trans hs4.2).trans (hg5.mono (S' := fun k => k = b) (fun _ _ e => e.elim))
      obtain ⟨⟨m0, m1, m2, m3, m4, m5, m6, m7, m8⟩, mf⟩ := nine hc9
      go_wp2_with fail
      exact bodyPost_ret (v := lf 4 0 0 0 e0 a c d) (by simp [results, Tryz.results95, go_sem, m0, m1, m2, m3, m4, m5, m6, m7, m8]) rfl ⟨rfl, hr9.gr (Gr.own9 _ _ _ _ _ _ _ _ _ _ _) (fun e => hgb e.symm), hg9.set9 hgn _ _ _ _ _ _ _ _ _⟩
  by_cases h3 : c = 112
  · subst h3
    have hlt : i < s.size := lt_of_pk (by rw [Hc.out]; decide)
    go_enter Tryz.func95, Tryz.ntmps95
    go_wp2_with fail
    generalize hW1 : W.alloc _ = W1
    have hg1 : Gr (fun k => k = b) W W1 := hW1 ▸ Gr.alloc _ _ _
    have hr1 : Rd W1 b s i n := hW1 ▸ h.gr (Gr.alloc _ _ (fun _ => False)) (fun e => e)
    have hc1 : W1.heap[W.heap.size]? = some (.cells #[.int .i64 0, .int .i64 0, .complex .f64 0 0, .string e0, .int .i64 0, .int .u32 0, .int .u64 0, nl, nl] 31 (0, 0)) := hW1 ▸ heap_alloc_new W _
    obtain ⟨g, hgg⟩ : ∃ g, g = W.heap.size := ⟨_, rfl⟩
    rw [← hgg] at hc1 ⊢
    have hgn : W.heap.size ≤ g := by omega
    have hgb : ¬ (g = b) := by omega
    clear hW1 hgg
    refine (hp _ hr1).mono ?_
    rintro e w2 ⟨rfl, hs2⟩
    obtain ⟨k0, k1, k2, l0, l1, l2⟩ := hs2.1.facts
    have hs3 := hs2.1.setAt (i + 1)
    have hg3 := (hg1.trans hs2.2).trans (Gr.set (S := fun k => k = b) w2 ⟨b, 1, none⟩ (.int .i64 ((i + 1 : Nat) : Int)) rfl)
    have hc3 := (Gr.set (S := fun k => k = b) w2 ⟨b, 1, none⟩ (.int .i64 ((i + 1 : Nat) : Int)) rfl).keep (hs2.2.keep hc1 hgb) hgb
    have hE3 := hE.gr hg3 (Ne.symm hb4)
    go_wp2_with fail
    have hid := id_c _ b s (i + 1) n hs3 hs (by omega) hE3 hb4
    cases hq : ids s (i + 1) with
    | error j =>
      rw [hq] at hid
      refine hid.mono ?_
      rintro e w4 ⟨rfl, hg4⟩
      have e : r = .error j := by rw [Hr.out, mrk, if_neg (by rw [Hc.out]; decide), if_neg (by rw [Hc.out]; decide), if_pos Hc.out, hq]
      subst e
      exact ⟨rfl, rfl, hg3.trans hg4⟩
    | ok v =>
      obtain ⟨a, c, d, j⟩ := v
      rw [hq] at hid
      refine hid.mono ?_
      rintro e w4 ⟨rfl, hs4⟩
      have e : r = .ok ({ k := 5, a := a, c := c, d := d }, idOk a c d, j) := by rw [Hr.out, mrk, if_neg (by rw [Hc.out]; decide), if_neg (by rw [Hc.out]; decide), if_pos Hc.out, hq]
      subst e
      go_wp2_with fail
      refine (pid_c a c d _).mono ?_
      rintro e w5 ⟨rfl, hg5⟩
      have hc9 := hg5.keep (hs4.2.keep hc3 hgb) (fun e => e)
      have hr9 := hs4.1.gr hg5 (fun e => e)
      have hg9 := (hg3.trans hs4.2).trans (hg5.mono (S' := fun k => k = b) (fun _ _ e => e.elim))
      obtain ⟨⟨m0, m1, m2, m3, m4, m5, m6, m7, m8⟩, mf⟩ := nine hc9
      go_wp2_with fail
      exact bodyPost_ret (v := lf 5 0 0 0 e0 a c d) (by simp [results, Tryz.results95, go_sem, m0, m1, m2, m3, m4, m5, m6, m7, m8]) rfl ⟨rfl, hr9.gr (Gr.own9 _ _ _ _ _ _ _ _ _ _ _) (fun e => hgb e.symm), hg9.set9 hgn _ _ _ _ _ _ _ _ _⟩
  have h1' : (c == 99) = false := by simpa using h1
  have h2' : (c == 114) = false := by simpa using h2
  have h3' : (c == 112) = false := by simpa using h3
  go_enter Tryz.func95, Tryz.ntmps95
  go_wp2_with fail
  generalize hW1 : W.alloc _ = W1
  have hg1 : Gr (fun k => k = b) W W1 := hW1 ▸ Gr.alloc _ _ _
  have hr1 : Rd W1 b s i n := hW1 ▸ h.gr (Gr.alloc _ _ (fun _ => False)) (fun e => e)
  have hc1 : W1.heap[W.heap.size]? = some (.cells #[.int .i64 0, .int .i64 0, .complex .f64 0 0, .string e0, .int .i64 0, .int .u32 0, .int .u64 0, nl, nl] 31 (0, 0)) := hW1 ▸ heap_alloc_new W _
  obtain ⟨g, hgg⟩ : ∃ g, g = W.heap.size := ⟨_, rfl⟩
  rw [← hgg] at hc1 ⊢
  have hgn : W.heap.size ≤ g := by omega
  have hgb : ¬ (g = b) := by omega
  clear hW1 hgg
  refine (hp _ hr1).mono ?_
  rintro e w2 ⟨rfl, hs2⟩
  go_wp2_with fail
  refine (misplaced_c _ b s i n hs2.1).mono ?_
  rintro e w4 ⟨rfl, hs4⟩
  go_wp2_with fail
  have e : r = .error i := by rw [Hr.out, mrk, if_neg (by rw [Hc.out]; exact h1), if_neg (by rw [Hc.out]; exact h2), if_neg (by rw [Hc.out]; exact h3)]
  subst e
  exact ⟨rfl, rfl, (hg1.trans hs2.2).trans hs4.2⟩

set_option maxRecDepth 100000 in
set_option maxHeartbeats 1600000 in
theorem single_c (W : World) (b : Nat) (s : ByteArray) (i n : Nat) (h : Rd W b s i n) (hs : s.size ≤ 65536) (hi : i ≤ s.size) (hE : Er W) (hb4 : b ≠ 4) :
    Calls Tryz.prog 65 #[pt b] W fun e w' => EndL W b s n e w' (sgl s i) := by
  have hb := h.lt
  have hi2 : (i : Int) ≤ 65536 := by omega
  obtain ⟨r, hr⟩ : ∃ r, r = sgl s i := ⟨_, rfl⟩
  rw [← hr]
  have Hr := Lib.hid hr
  clear hr
  obtain ⟨c, hc⟩ : ∃ c, pk s i = c := ⟨_, rfl⟩
  have hp := fun W h => peek_c W b s i n h hi
  rw [hc] at hp
  have Hc := Lib.hid hc
  clear hc
  by_cases h1 : c = 45 ∨ dig c = true
  · have H1 := Lib.hid h1
    by_cases h4 : c = 45
    · subst h4
      clear h1
      go_enter Tryz.func65, Tryz.ntmps65
      go_wp2_with fail
      generalize hW1 : W.alloc _ = W1
      have hg1 : Gr (fun k => k = b) W W1 := hW1 ▸ Gr.alloc _ _ _
      have hr1 : Rd W1 b s i n := hW1 ▸ h.gr (Gr.alloc _ _ (fun _ => False)) (fun e => e)
      have hc1 : W1.heap[W.heap.size]? = some (.cells #[.int .i64 0, .int .i64 0, .complex .f64 0 0, .string e0, .int .i64 0, .int .u32 0, .int .u64 0, nl, nl] 31 (0, 0)) := hW1 ▸ heap_alloc_new W _
      obtain ⟨g, hgg⟩ : ∃ g, g = W.heap.size := ⟨_, rfl⟩
      rw [← hgg] at hc1 ⊢
      have hgn : W.heap.size ≤ g := by omega
      have hgb : ¬ (g = b) := by omega
      clear hW1 hgg
      refine (hp _ hr1).mono ?_
      rintro e w2 ⟨rfl, hs2⟩
      go_wp2_with (first | (go_at_call 91; refine (digit_c _ _).mono ?_; rintro e w3 ⟨rfl, rfl⟩))
      have hE2 := hE.gr (hg1.trans hs2.2) (Ne.symm hb4)
      have hin := integer_c _ b s i n hs2.1 hs hi hE2 hb4
      cases hq : itg s i with
      | error j =>
        rw [hq] at hin
        refine hin.mono ?_
        rintro e w4 ⟨rfl, hg4⟩
        have e : r = .error j := by rw [Hr.out, sgl, if_pos (by rw [Hc.out]; exact .inl rfl), hq]
        subst e
        exact ⟨rfl, rfl, (hg1.trans hs2.2).trans hg4⟩
      | ok v =>
        obtain ⟨v, j⟩ := v
        rw [hq] at hin
        refine hin.mono ?_
        rintro e w4 ⟨rfl, hs4⟩
        have e : r = .ok ({ k := 1, n := v }, inR v, j) := by rw [Hr.out, sgl, if_pos (by rw [Hc.out]; exact .inl rfl), hq]
        subst e
        go_wp2_with fail
        refine (int_c v _).mono ?_
        rintro e w5 ⟨rfl, hg5⟩
        have hc9 := hg5.keep (hs4.2.keep (hs2.2.keep hc1 hgb) hgb) (fun e => e)
        have hr9 := hs4.1.gr hg5 (fun e => e)
        have hg9 := ((hg1.trans hs2.2).trans hs4.2).trans (hg5.mono (S' := fun k => k = b) (fun _ _ e => e.elim))
        obtain ⟨⟨m0, m1, m2, m3, m4, m5, m6, m7, m8⟩, mf⟩ := nine hc9
        go_wp2_with fail
        exact bodyPost_ret (v := lf 1 v 0 0 e0 0 0 0) (by simp [results, Tryz.results65, go_sem, m0, m1, m2, m3, m4, m5, m6, m7, m8]) rfl ⟨rfl, hr9.gr (Gr.own9 _ _ _ _ _ _ _ _ _ _ _) (fun e => hgb e.symm), hg9.set9 hgn _ _ _ _ _ _ _ _ _⟩
    · have h4' : (c == 45) = false := by simpa using h4
      have h5 : dig c = true := by rcases h1 with e | e; exact (h4 e).elim; exact e
      clear h1 h4
      go_enter Tryz.func65, Tryz.ntmps65
      go_wp2_with fail
      generalize hW1 : W.alloc _ = W1
      have hg1 : Gr (fun k => k = b) W W1 := hW1 ▸ Gr.alloc _ _ _
      have hr1 : Rd W1 b s i n := hW1 ▸ h.gr (Gr.alloc _ _ (fun _ => False)) (fun e => e)
      have hc1 : W1.heap[W.heap.size]? = some (.cells #[.int .i64 0, .int .i64 0, .complex .f64 0 0, .string e0, .int .i64 0, .int .u32 0, .int .u64 0, nl, nl] 31 (0, 0)) := hW1 ▸ heap_alloc_new W _
      obtain ⟨g, hgg⟩ : ∃ g, g = W.heap.size := ⟨_, rfl⟩
      rw [← hgg] at hc1 ⊢
      have hgn : W.heap.size ≤ g := by omega
      have hgb : ¬ (g = b) := by omega
      clear hW1 hgg
      refine (hp _ hr1).mono ?_
      rintro e w2 ⟨rfl, hs2⟩
      go_wp2_with (first | (go_at_call 91; refine (digit_c _ _).mono ?_; rintro e w3 ⟨rfl, rfl⟩))
      have hE2 := hE.gr (hg1.trans hs2.2) (Ne.symm hb4)
      have hin := integer_c _ b s i n hs2.1 hs hi hE2 hb4
      cases hq : itg s i with
      | error j =>
        rw [hq] at hin
        refine hin.mono ?_
        rintro e w4 ⟨rfl, hg4⟩
        have e : r = .error j := by rw [Hr.out, sgl, if_pos (by rw [Hc.out]; exact H1.out), hq]
        subst e
        exact ⟨rfl, rfl, (hg1.trans hs2.2).trans hg4⟩
      | ok v =>
        obtain ⟨v, j⟩ := v
        rw [hq] at hin
        refine hin.mono ?_
        rintro e w4 ⟨rfl, hs4⟩
        have e : r = .ok ({ k := 1, n := v }, inR v, j) := by rw [Hr.out, sgl, if_pos (by rw [Hc.out]; exact H1.out), hq]
        subst e
        go_wp2_with fail
        refine (int_c v _).mono ?_
        rintro e w5 ⟨rfl, hg5⟩
        have hc9 := hg5.keep (hs4.2.keep (hs2.2.keep hc1 hgb) hgb) (fun e => e)
        have hr9 := hs4.1.gr hg5 (fun e => e)
        have hg9 := ((hg1.trans hs2.2).trans hs4.2).trans (hg5.mono (S' := fun k => k = b) (fun _ _ e => e.elim))
        obtain ⟨⟨m0, m1, m2, m3, m4, m5, m6, m7, m8⟩, mf⟩ := nine hc9
        go_wp2_with fail
        exact bodyPost_ret (v := lf 1 v 0 0 e0 0 0 0) (by simp [results, Tryz.results65, go_sem, m0, m1, m2, m3, m4, m5, m6, m7, m8]) rfl ⟨rfl, hr9.gr (Gr.own9 _ _ _ _ _ _ _ _ _ _ _) (fun e => hgb e.symm), hg9.set9 hgn _ _ _ _ _ _ _ _ _⟩
  have H1 := Lib.hid h1
  have h4 : (c == 45) = false := by simp; intro e; exact h1 (.inl e)
  have h5 : dig c = false := by cases e : dig c; rfl; exact (h1 (.inr e)).elim
  clear h1
  cases h2 : low c with
  | true =>
    have hin : inN (pk s i) = true := by rw [Hc.out]; simp [inN, h2]
    have hnm := fun W h => name_c W b s i n h hs hi hin
    have e : r = .ok ({ k := 3, s := s.extract i (span inN s i) }, decide (span inN s i - i ≤ 32), span inN s i) := by rw [Hr.out, sgl, if_neg (by rw [Hc.out]; exact H1.out), if_pos (by rw [Hc.out]; exact h2)]
    subst e
    clear hin Hr
    generalize span inN s i = j at hnm ⊢
    generalize s.extract i j = t at hnm ⊢
    go_enter Tryz.func65, Tryz.ntmps65
    go_wp2_with fail
    generalize hW1 : W.alloc _ = W1
    have hg1 : Gr (fun k => k = b) W W1 := hW1 ▸ Gr.alloc _ _ _
    have hr1 : Rd W1 b s i n := hW1 ▸ h.gr (Gr.alloc _ _ (fun _ => False)) (fun e => e)
    have hc1 : W1.heap[W.heap.size]? = some (.cells #[.int .i64 0, .int .i64 0, .complex .f64 0 0, .string e0, .int .i64 0, .int .u32 0, .int .u64 0, nl, nl] 31 (0, 0)) := hW1 ▸ heap_alloc_new W _
    obtain ⟨g, hgg⟩ : ∃ g, g = W.heap.size := ⟨_, rfl⟩
    rw [← hgg] at hc1 ⊢
    have hgn : W.heap.size ≤ g := by omega
    have hgb : ¬ (g = b) := by omega
    clear hW1 hgg
    refine (hp _ hr1).mono ?_
    rintro e w2 ⟨rfl, hs2⟩
    go_wp2_with (first | (go_at_call 91; refine (digit_c _ _).mono ?_; rintro e w3 ⟨rfl, rfl⟩) | (go_at_call 93; refine (lower_c _ _).mono ?_; rintro e w3 ⟨rfl, rfl⟩))
    refine (hnm _ hs2.1).mono ?_
    rintro e w4 ⟨rfl, hs4⟩
    go_wp2_with fail
    refine (atom_c t _).mono ?_
    rintro e w5 ⟨rfl, hg5⟩
    have hc9 := hg5.keep (hs4.2.keep (hs2.2.keep hc1 hgb) hgb) (fun e => e)
    have hr9 := hs4.1.gr hg5 (fun e => e)
    have hg9 := ((hg1.trans hs2.2).trans hs4.2).trans (hg5.mono (S' := fun k => k = b) (fun _ _ e => e.elim))
    obtain ⟨⟨m0, m1, m2, m3, m4, m5, m6, m7, m8⟩, mf⟩ := nine hc9
    go_wp2_with fail
    exact bodyPost_ret (v := lf 3 0 0 0 t 0 0 0) (by simp [results, Tryz.results65, go_sem, m0, m1, m2, m3, m4, m5, m6, m7, m8]) rfl ⟨rfl, hr9.gr (Gr.own9 _ _ _ _ _ _ _ _ _ _ _) (fun e => hgb e.symm), hg9.set9 hgn _ _ _ _ _ _ _ _ _⟩
  | false =>
    by_cases h3 : c = 35
    · subst h3
      have hlt : i < s.size := lt_of_pk (by rw [Hc.out]; decide)
      go_enter Tryz.func65, Tryz.ntmps65
      go_wp2_with fail
      generalize hW1 : W.alloc _ = W1
      have hg1 : Gr (fun k => k = b) W W1 := hW1 ▸ Gr.alloc _ _ _
      have hr1 : Rd W1 b s i n := hW1 ▸ h.gr (Gr.alloc _ _ (fun _ => False)) (fun e => e)
      have hc1 : W1.heap[W.heap.size]? = some (.cells #[.int .i64 0, .int .i64 0, .complex .f64 0 0, .string e0, .int .i64 0, .int .u32 0, .int .u64 0, nl, nl] 31 (0, 0)) := hW1 ▸ heap_alloc_new W _
      obtain ⟨g, hgg⟩ : ∃ g, g = W.heap.size := ⟨_, rfl⟩
      rw [← hgg] at hc1 ⊢
      have hgn : W.heap.size ≤ g := by omega
      have hgb : ¬ (g = b) := by omega
      clear hW1 hgg
      refine (hp _ hr1).mono ?_
      rintro e w2 ⟨rfl, hs2⟩
      obtain ⟨k0, k1, k2, l0, l1, l2⟩ := hs2.1.facts
      have hs3 := hs2.1.setAt (i + 1)
      have hg3 := (hg1.trans hs2.2).trans (Gr.set (S := fun k => k = b) w2 ⟨b, 1, none⟩ (.int .i64 ((i + 1 : Nat) : Int)) rfl)
      have hc3 := (Gr.set (S := fun k => k = b) w2 ⟨b, 1, none⟩ (.int .i64 ((i + 1 : Nat) : Int)) rfl).keep (hs2.2.keep hc1 hgb) hgb
      have hE3 := hE.gr hg3 (Ne.symm hb4)
      go_wp2_with (first | (go_at_call 91; refine (digit_c _ _).mono ?_; rintro e w3 ⟨rfl, rfl⟩) | (go_at_call 93; refine (lower_c _ _).mono ?_; rintro e w3 ⟨rfl, rfl⟩))
      have hmk := marked_c _ b s (i + 1) n hs3 hs (by omega) hE3 hb4
      have e1 : r = mrk s (i + 1) := by rw [Hr.out, sgl, if_neg (by rw [Hc.out]; decide), if_neg (by rw [Hc.out]; decide), if_pos Hc.out]
      cases hq : mrk s (i + 1) with
      | error j =>
        rw [hq] at hmk e1
        refine hmk.mono ?_
        rintro e w4 ⟨rfl, hg4⟩
        subst e1
        exact ⟨rfl, rfl, hg3.trans hg4⟩
      | ok v =>
        obtain ⟨t, ok, j⟩ := v
        rw [hq] at hmk e1
        refine hmk.mono ?_
        rintro e w4 ⟨rfl, hs4⟩
        subst e1
        have hc9 := hs4.2.keep hc3 hgb
        have hr9 := hs4.1
        have hg9 := hg3.trans hs4.2
        obtain ⟨⟨m0, m1, m2, m3, m4, m5, m6, m7, m8⟩, mf⟩ := nine hc9
        go_wp2_with fail
        exact bodyPost_ret (v := t.val) (by simp [results, Tryz.results65, go_sem, m0, m1, m2, m3, m4, m5, m6, m7, m8]) rfl ⟨rfl, hr9.gr (Gr.own9 _ _ _ _ _ _ _ _ _ _ _) (fun e => hgb e.symm), hg9.set9 hgn _ _ _ _ _ _ _ _ _⟩
    · have H3 := Lib.hid h3
      have h3' : (c == 35) = false := by simpa using h3
      clear h3
      go_enter Tryz.func65, Tryz.ntmps65
      go_wp2_with fail
      generalize hW1 : W.alloc _ = W1
      have hg1 : Gr (fun k => k = b) W W1 := hW1 ▸ Gr.alloc _ _ _
      have hr1 : Rd W1 b s i n := hW1 ▸ h.gr (Gr.alloc _ _ (fun _ => False)) (fun e => e)
      have hc1 : W1.heap[W.heap.size]? = some (.cells #[.int .i64 0, .int .i64 0, .complex .f64 0 0, .string e0, .int .i64 0, .int .u32 0, .int .u64 0, nl, nl] 31 (0, 0)) := hW1 ▸ heap_alloc_new W _
      obtain ⟨g, hgg⟩ : ∃ g, g = W.heap.size := ⟨_, rfl⟩
      rw [← hgg] at hc1 ⊢
      have hgn : W.heap.size ≤ g := by omega
      have hgb : ¬ (g = b) := by omega
      clear hW1 hgg
      refine (hp _ hr1).mono ?_
      rintro e w2 ⟨rfl, hs2⟩
      go_wp2_with (first | (go_at_call 91; refine (digit_c _ _).mono ?_; rintro e w3 ⟨rfl, rfl⟩) | (go_at_call 93; refine (lower_c _ _).mono ?_; rintro e w3 ⟨rfl, rfl⟩))
      refine (misplaced_c _ b s i n hs2.1).mono ?_
      rintro e w4 ⟨rfl, hs4⟩
      go_wp2_with fail
      have e : r = .error i := by rw [Hr.out, sgl, if_neg (by rw [Hc.out]; exact H1.out), if_neg (by rw [Hc.out, h2]; decide), if_neg (by rw [Hc.out]; exact H3.out)]
      subst e
      exact ⟨rfl, rfl, (hg1.trans hs2.2).trans hs4.2⟩
end Go.Proofs.YtdmichjhmfinpaaGreatDoor
