/-
  The reference's state by value; is, kind, bad, want, sink, rise.
  The reference's rules: how they end; more.
  The reference's body.
  The reference's list.
-/
import Derived.Test.YtggkjkkbkpnkiaaGreatDoorGD
set_option linter.unusedVariables false
set_option linter.unusedSimpArgs false
namespace Go.Proofs.YtggkjkkbkpnkiaaGreatDoor
open Go.RowKit Go.Maps
variable {x : Kx} {W W' : World} {p p' : Ps}
/-- A state, by value. -/
abbrev stv (x : Kx) (p : Ps) : Value := .agg #[.slice x.a x.ts.length x.c, .int .i64 (p.i : Int), .int .i64 (p.d : Int), .int .i64 p.e]
abbrev stb (x : Kx) (p : Ps) : Obj := .cells #[.slice x.a x.ts.length x.c, .int .i64 (p.i : Int), .int .i64 (p.d : Int), .int .i64 p.e] 45 (0, 0)
theorem cell_eq {W W' : World} {g k : Nat} (h : W'.heap[g]? = W.heap[g]?) : W'.cell? ⟨g, k, none⟩ = W.cell? ⟨g, k, none⟩ := by simp only [World.cell?, h]
/-- A row of bytes that only blocks of A hold, wherever it begins. -/
def RowBG (A : Nat → Prop) (W : World) (bs : List Int) (v : Value) : Prop :=
  (bs = [] ∧ ∃ a c, v = .slice a 0 c) ∨ ∃ g o cap, v = .slice (some ⟨g, o, none⟩) bs.length cap ∧ A g ∧ ∀ j u, (bs.map (Value.int .u8))[j]? = some u → W.cell? ⟨g, o + j, none⟩ = some u
theorem RowBG.turn {A A' : Nat → Prop} {W W' : World} (h : Turn A A' W W') {bs : List Int} {v : Value} (k : RowBG A W bs v) : RowBG A' W' bs v := by
  rcases k with k | ⟨g, o, cap, rfl, hg, hc⟩
  · exact .inl k
  · by_cases h0 : bs = []
    · subst h0; exact .inl ⟨rfl, _, _, rfl⟩
    · have hl : 0 < bs.length := List.length_pos_iff.2 h0
      have hx := World.block_lt_of_cell? _ _ (hc 0 _ (by rw [List.getElem?_map, List.getElem?_eq_getElem hl]; rfl))
      obtain ⟨h3, h4⟩ := h g hg hx
      exact .inr ⟨g, o, cap, rfl, h3, fun j u hu => (cell_eq h4).trans (hc j u hu)⟩
theorem RowBG.sv {A : Nat → Prop} {W : World} {bs : List Int} {v : Value} (k : RowBG A W bs v) : ∃ a c, v = .slice a bs.length c := by
  rcases k with ⟨rfl, a, c, rfl⟩ | ⟨g, o, cap, rfl, _⟩
  · exact ⟨_, _, rfl⟩
  · exact ⟨_, _, rfl⟩
theorem RowB.gen {A : Nat → Prop} {W : World} {bs : List Int} {v : Value} (k : RowB A W bs v) : RowBG A W bs v := by
  rcases k with k | ⟨g, cap, cur, rfl, hg, hc, hl, h6⟩
  · exact .inl k
  · refine .inr ⟨g, 0, cap, rfl, hg, fun j u hu => ?_⟩
    rw [← h6] at hu
    have hj : j < bs.length := by
      rcases Nat.lt_or_ge j bs.length with h | h
      · exact h
      · rw [List.getElem?_eq_none (by simp; omega)] at hu; cases hu
    rw [List.getElem?_take_of_lt hj] at hu
    simp only [World.cell?, hc]
    simpa using hu
/-- The tokens at hand, wherever their row begins. -/
def TokK (N : Nat) (W : World) (ts : List Tn) (vs : List Value) (a : Option Addr) : Prop :=
  ∀ (k : Nat) (t : Tn), ts[k]? = some t → ∃ v g o, vs[k]? = some v ∧ a = some ⟨g, o, none⟩ ∧ g < N ∧ RowBG (fun z => z < N) W t.b v ∧ ∀ j u, (tnc t v)[j]? = some u → W.cell? ⟨g, o + k * 5 + j, none⟩ = some u
theorem TokK.turn {N : Nat} {W W' : World} {ts : List Tn} {vs : List Value} {a : Option Addr} (h : TokK N W ts vs a) (ht : Turn (fun k => k < N) (fun k => k < N) W W') : TokK N W' ts vs a := fun k t hk => by
  obtain ⟨v, g, o, h1, h2, h3, h4, h5⟩ := h k t hk
  have hx : g < W.heap.size := World.block_lt_of_cell? _ _ (h5 0 _ rfl)
  exact ⟨v, g, o, h1, h2, h3, h4.turn ht, fun j u hu => (cell_eq (ht g h3 hx).2).trans (h5 j u hu)⟩
theorem TokK.of_row {N : Nat} {W : World} {ts : List Tn} {vs : List Value} {a : Option Addr} {c : Nat} (hrow : RowK (fun k => k < N) W ts vs a c) (hbs : BsK (fun k => k < N) W ts vs) : TokK N W ts vs a := fun k t hk => by
  obtain ⟨v, hv, hb, hc⟩ := tncs_at hbs k t hk
  rcases hrow with ⟨h0, _⟩ | ⟨g, cur, hg, hgN, hgc, h6⟩
  · rw [h0] at hk; simp at hk
  · refine ⟨v, g, 0, hv, hg, hgN, hb.gen, fun j u hu => ?_⟩
    have e := hc j u hu
    rw [← h6] at e
    have hlt : k * 5 + j < ts.length * 5 := by
      rcases Nat.lt_or_ge (k * 5 + j) (ts.length * 5) with h | h
      · exact h
      · rw [List.getElem?_eq_none (by simp; omega)] at e; cases e
    rw [List.getElem?_take_of_lt hlt] at e
    simp only [World.cell?, hgc]
    simpa using e
/-- The tokens that are read. -/
structure Rz (x : Kx) (W : World) (p : Ps) : Prop where
  tok : TokK x.N W x.ts x.vs x.a
  hN : x.N ≤ W.heap.size
  hi : p.i ≤ x.ts.length
  hd : p.d ≤ 40
  hc : x.ts.length ≤ x.c
  hm : x.ts.length ≤ 100000
  hS : ∀ t ∈ x.ts, t.s.size ≤ 140737488351232
  hB : ∀ t ∈ x.ts, t.b.length ≤ 200000
theorem Rz.gr {S : Nat → Prop} (h : Rz x W p) (g : Gr S W W') (hs : ∀ k, k < x.N → ¬ S k) : Rz x W' p := by
  have ht : Turn (fun k => k < x.N) (fun k => k < x.N) W W' := fun k hk hl => ⟨hk, g.block k hl (hs k hk)⟩
  exact ⟨h.tok.turn ht, Nat.le_trans h.hN g.size, h.hi, h.hd, h.hc, h.hm, h.hS, h.hB⟩
theorem Rz.g0 (h : Rz x W p) (g : Gr (fun _ => False) W W') : Rz x W' p := h.gr g (fun _ _ e => e)
theorem Rz.to (h : Rz x W p) (hi : p'.i ≤ x.ts.length) (hd : p'.d ≤ 40) : Rz x W p' := ⟨h.tok, h.hN, hi, hd, h.hc, h.hm, h.hS, h.hB⟩
theorem Rz.at (h : Rz x W p) (he : p.e = 0) (hl : p.i < x.ts.length) : x.ts[p.i]? = some (pkT x.ts p) ∧ RowBG (fun k => k < x.N) W (pkT x.ts p).b (pkB x.vs p) ∧ ∃ g o, x.a = some ⟨g, o, none⟩ ∧ g < x.N ∧
    ∀ j u, (tnc (pkT x.ts p) (pkB x.vs p))[j]? = some u → W.cell? ⟨g, o + p.i * 5 + j, none⟩ = some u := by
  have ht : x.ts[p.i]? = some (pkT x.ts p) := by
    rw [pkT, if_pos he, List.getElem?_eq_getElem hl]; rfl
  obtain ⟨v, g, o, hv, ha, hg, hb, hc⟩ := h.tok p.i _ ht
  have hpv : pkB x.vs p = v := by rw [pkB, if_pos he, hv]; rfl
  rw [hpv]
  exact ⟨ht, hb, g, o, ha, hg, hc⟩
theorem pkT_none (h : p.e ≠ 0 ∨ x.ts.length ≤ p.i) : pkT x.ts p = tn0 := by
  by_cases e : p.e = 0
  · rw [pkT, if_pos e, List.getElem?_eq_none (by rcases h with h | h; exact absurd e h; exact h)]; rfl
  · rw [pkT, if_neg e]
theorem four_cells {w : World} {b : Nat} {x0 x1 x2 x3 : Value} {t : TypeId} (h : w.heap[b]? = some (.cells #[x0, x1, x2, x3] t (0, 0))) :
    (w.cell? ⟨b, 0, none⟩ = some x0 ∧ w.cell? ⟨b, 1, none⟩ = some x1 ∧ w.cell? ⟨b, 2, none⟩ = some x2 ∧ w.cell? ⟨b, 3, none⟩ = some x3) ∧
    (w.frozen? ⟨b, 0, none⟩ = false ∧ w.frozen? ⟨b, 1, none⟩ = false ∧ w.frozen? ⟨b, 2, none⟩ = false ∧ w.frozen? ⟨b, 3, none⟩ = false) := by
  simp [World.cell?, World.frozen?, h]
/-- Four cells of a block are written. -/
abbrev set4 (w : World) (b : Nat) (y0 y1 y2 y3 : Value) : World := (((w.setCell ⟨b, 0, none⟩ y0).setCell ⟨b, 1, none⟩ y1).setCell ⟨b, 2, none⟩ y2).setCell ⟨b, 3, none⟩ y3
theorem set4_heap {w : World} {b : Nat} {x0 x1 x2 x3 : Value} {t : TypeId} (h : w.heap[b]? = some (.cells #[x0, x1, x2, x3] t (0, 0))) (y0 y1 y2 y3 : Value) :
    (set4 w b y0 y1 y2 y3).heap[b]? = some (.cells #[y0, y1, y2, y3] t (0, 0)) := by
  have h0 : (w.setCell ⟨b, 0, none⟩ y0).heap[b]? = some (.cells #[y0, x1, x2, x3] t (0, 0)) := heap_setCell_same w b 0 _ t _ h
  have h1 : ((w.setCell ⟨b, 0, none⟩ y0).setCell ⟨b, 1, none⟩ y1).heap[b]? = some (.cells #[y0, y1, x2, x3] t (0, 0)) := heap_setCell_same (w.setCell ⟨b, 0, none⟩ y0) b 1 _ t _ h0
  have h2 : (((w.setCell ⟨b, 0, none⟩ y0).setCell ⟨b, 1, none⟩ y1).setCell ⟨b, 2, none⟩ y2).heap[b]? = some (.cells #[y0, y1, y2, x3] t (0, 0)) := heap_setCell_same ((w.setCell ⟨b, 0, none⟩ y0).setCell ⟨b, 1, none⟩ y1) b 2 _ t _ h1
  exact heap_setCell_same (((w.setCell ⟨b, 0, none⟩ y0).setCell ⟨b, 1, none⟩ y1).setCell ⟨b, 2, none⟩ y2) b 3 _ t _ h2
theorem set4_gr (w : World) (b : Nat) (y0 y1 y2 y3 : Value) : Gr (fun k => k = b) w (set4 w b y0 y1 y2 y3) :=
  (((Gr.set (S := fun k => k = b) w ⟨b, 0, none⟩ y0 rfl).trans (Gr.set (S := fun k => k = b) _ ⟨b, 1, none⟩ y1 rfl)).trans (Gr.set (S := fun k => k = b) _ ⟨b, 2, none⟩ y2 rfl)).trans (Gr.set (S := fun k => k = b) _ ⟨b, 3, none⟩ y3 rfl)
set_option maxRecDepth 100000 in
set_option maxHeartbeats 1600000 in
theorem rkind_c (h : Rz x W p) : Calls Tryz.prog 19 #[stv x p] W fun e w' => e = .returned (.int .i64 (pkT x.ts p).k) ∧ Gr (fun _ => False) W w' := by
  have hm := h.hm
  have hi := h.hi
  have hN := h.hN
  have gA := Gr.alloc W (.cells #[.slice x.a x.ts.length x.c, .int .i64 (p.i : Int), .int .i64 (p.d : Int), .int .i64 p.e] 45) (fun _ => False)
  by_cases hq : p.e = 0 ∧ p.i < x.ts.length
  · obtain ⟨he, hl⟩ := hq
    obtain ⟨ht, hrow, g, o, hg, hgN, hc⟩ := h.at he hl
    have k0 : W.cell? ⟨g, o + p.i * 5, none⟩ = _ := hc 0 _ rfl
    have hgl : g < W.heap.size := World.block_lt_of_cell? _ _ k0
    unfold stv
    rw [hg] at gA ⊢
    rw [he] at gA ⊢
    generalize (pkT x.ts p).k = k at k0 ⊢
    generalize x.ts.length = n at gA hm hi hl ⊢
    generalize p.i = i at gA hi hl k0 ⊢
    have q : decide ((n : Int) ≤ (i : Int)) = false := by simp; omega
    clear ht hrow hc h hg
    go_enter Tryz.func19, Tryz.ntmps19
    go_wp2_with fail
    go_ret
    exact ⟨rfl, gA⟩
  · have hT := pkT_none (x := x) (p := p) (by by_cases e : p.e = 0; exact .inr (by omega); exact .inl e)
    rw [hT]
    by_cases he : p.e = 0
    · have hl : x.ts.length ≤ p.i := by omega
      have q : decide ((x.ts.length : Int) ≤ (p.i : Int)) = true := by simp; omega
      unfold stv
      rw [he] at gA ⊢
      clear hT h
      go_enter Tryz.func19, Tryz.ntmps19
      go_wp2_with fail
      go_ret
      exact ⟨rfl, gA⟩
    · have q : (p.e != 0) = true := by rw [bne_iff_ne]; exact he
      clear hT h hq
      replace he := Lib.hid he
      go_enter Tryz.func19, Tryz.ntmps19
      go_wp2_with fail
      go_ret
      exact ⟨rfl, gA⟩
abbrev G2 (W : World) (a b : Obj) : Gr (fun _ => False) W ((W.alloc a).alloc b) := (Gr.alloc W a _).trans (Gr.alloc _ b _)
set_option maxRecDepth 100000 in
set_option maxHeartbeats 1600000 in
theorem rbad_c (W : World) (p : Ps) (c : Int) : Calls Tryz.prog 20 #[stv x p, .int .i64 c] W fun e w' => e = .returned (stv x (failV c p)) ∧ Gr (fun _ => False) W w' := by
  by_cases he : p.e = 0
  · have e1 : failV c p = { p with e := c } := by rw [failV, if_pos he]
    rw [e1]
    unfold stv
    rw [he]
    clear he e1
    go_enter Tryz.func20, Tryz.ntmps20
    go_wp2_with fail
    exact bodyPost_ret (by simp [results, Tryz.results20, go_sem]) rfl ⟨rfl, G2 W _ _⟩
  · have e1 : failV c p = p := by rw [failV, if_neg he]
    have q : (p.e == 0) = false := by simpa using he
    rw [e1]
    clear he e1
    go_enter Tryz.func20, Tryz.ntmps20
    go_wp2_with fail
    exact bodyPost_ret (by simp [results, Tryz.results20, go_sem]) rfl ⟨rfl, G2 W _ _⟩
set_option maxRecDepth 100000 in
set_option maxHeartbeats 1600000 in
theorem ris_c (h : Rz x W p) (s : ByteArray) : Calls Tryz.prog 22 #[stv x p, .string s] W fun e w' => e = .returned (.bool (isV x.ts p s)) ∧ Gr (fun _ => False) W w' := by
  have hm := h.hm
  have hi := h.hi
  have hN := h.hN
  have gA := Gr.alloc W (.cells #[.slice x.a x.ts.length x.c, .int .i64 (p.i : Int), .int .i64 (p.d : Int), .int .i64 p.e] 45) (fun _ => False)
  unfold isV
  by_cases hq : p.e = 0 ∧ p.i < x.ts.length
  · obtain ⟨he, hl⟩ := hq
    obtain ⟨ht, hrow, g, o, hg, hgN, hc⟩ := h.at he hl
    have k0 : W.cell? ⟨g, o + p.i * 5, none⟩ = _ := hc 0 _ rfl
    have k1 := hc 1 _ rfl
    have hgl : g < W.heap.size := World.block_lt_of_cell? _ _ k0
    unfold stv
    rw [hg] at gA ⊢
    rw [he] at gA ⊢
    generalize (pkT x.ts p).k = k at k0 ⊢
    generalize (pkT x.ts p).s = t at k1 ⊢
    generalize x.ts.length = n at gA hm hi hl ⊢
    generalize p.i = i at gA hi hl k0 k1 ⊢
    have q : decide ((i : Int) < (n : Int)) = true := by simp; omega
    clear ht hrow hc h hg he
    cases q5 : (k == 5) with
    | true =>
      cases q2 : (t.toList == s.toList) with
      | true => go_enter Tryz.func22, Tryz.ntmps22; go_wp2_with fail; go_ret; exact ⟨rfl, gA⟩
      | false => go_enter Tryz.func22, Tryz.ntmps22; go_wp2_with fail; go_ret; exact ⟨rfl, gA⟩
    | false =>
      cases q6 : (k == 6) with
      | true =>
        cases q2 : (t.toList == s.toList) with
        | true => go_enter Tryz.func22, Tryz.ntmps22; go_wp2_with fail; go_ret; exact ⟨rfl, gA⟩
        | false => go_enter Tryz.func22, Tryz.ntmps22; go_wp2_with fail; go_ret; exact ⟨rfl, gA⟩
      | false => go_enter Tryz.func22, Tryz.ntmps22; go_wp2_with fail; go_ret; exact ⟨rfl, gA⟩
  · have hT := pkT_none (x := x) (p := p) (by by_cases e : p.e = 0; exact .inr (by omega); exact .inl e)
    rw [hT]
    show Calls _ _ _ _ fun e w' => e = .returned (.bool false) ∧ _
    by_cases he : p.e = 0
    · have hl : x.ts.length ≤ p.i := by omega
      have q : decide ((p.i : Int) < (x.ts.length : Int)) = false := by simp; omega
      unfold stv
      rw [he] at gA ⊢
      clear hT h hq
      go_enter Tryz.func22, Tryz.ntmps22
      go_wp2_with fail
      go_ret
      exact ⟨rfl, gA⟩
    · have q : (p.e == 0) = false := by simpa using he
      clear hT h hq
      replace he := Lib.hid he
      go_enter Tryz.func22, Tryz.ntmps22
      go_wp2_with fail
      go_ret
      exact ⟨rfl, gA⟩
/-- A result's block is written at the end. -/
theorem fin4 {w : World} {b : Nat} {x0 x1 x2 x3 : Value} (G : Gr (fun _ => False) W w) (hb : W.heap.size ≤ b) (h : w.heap[b]? = some (.cells #[x0, x1, x2, x3] 45 (0, 0))) (y0 y1 y2 y3 : Value) :
    (set4 w b y0 y1 y2 y3).heap[b]? = some (.cells #[y0, y1, y2, y3] 45 (0, 0)) ∧ Gr (fun _ => False) W (set4 w b y0 y1 y2 y3) :=
  ⟨set4_heap h y0 y1 y2 y3, G.trans' (set4_gr w b y0 y1 y2 y3) (fun i hi e => by omega)⟩
/-- One token further. -/
theorem step4 {w : World} {b : Nat} (G : Gr (fun _ => False) W w) (hb : W.heap.size ≤ b) (h : w.heap[b]? = some (stb x p)) :
    (w.setCell ⟨b, 1, none⟩ (.int .i64 ((p.i : Int) + 1))).heap[b]? = some (stb x p.next) ∧ Gr (fun _ => False) W (w.setCell ⟨b, 1, none⟩ (.int .i64 ((p.i : Int) + 1))) ∧ Gr (fun k => k = b) w (w.setCell ⟨b, 1, none⟩ (.int .i64 ((p.i : Int) + 1))) := by
  have gs : Gr (fun k => k = b) w (w.setCell ⟨b, 1, none⟩ (.int .i64 ((p.i : Int) + 1))) := Gr.set _ _ _ rfl
  exact ⟨heap_setCell_same w b 1 _ 45 _ h, G.trans' gs (fun i hi e => by omega), gs⟩
abbrev zs : Obj := .cells #[.slice none 0 0, .int .i64 0, .int .i64 0, .int .i64 0] 45 (0, 0)
set_option maxRecDepth 100000 in
set_option maxHeartbeats 1600000 in
theorem rwant_c (h : Rz x W p) (s : ByteArray) : Calls Tryz.prog 21 #[stv x p, .string s] W fun e w' => e = .returned (stv x (wantV x.ts s p)) ∧ Gr (fun _ => False) W w' := by
  have hm := h.hm
  have hi := h.hi
  have g0 := G2 W (stb x p) (.cells #[.slice none 0 0, .int .i64 0, .int .i64 0, .int .i64 0] 45 (0, 0))
  have b0 : ((W.alloc (stb x p)).alloc (.cells #[.slice none 0 0, .int .i64 0, .int .i64 0, .int .i64 0] 45 (0, 0))).heap[W.heap.size]? = some (stb x p) := (Gr.alloc _ _ (fun _ => False)).keep (heap_alloc_new W _) (fun e => e)
  have b1 : ((W.alloc (stb x p)).alloc (.cells #[.slice none 0 0, .int .i64 0, .int .i64 0, .int .i64 0] 45 (0, 0))).heap[W.heap.size + 1]? = some (.cells #[.slice none 0 0, .int .i64 0, .int .i64 0, .int .i64 0] 45 (0, 0)) := by
    have := heap_alloc_new (W.alloc (stb x p)) (.cells #[.slice none 0 0, .int .i64 0, .int .i64 0, .int .i64 0] 45 (0, 0))
    simpa using this
  have his := fun w (g : Gr (fun _ => False) W w) => ris_c (h.g0 g) s
  have hbad := fun w => rbad_c (x := x) w p 160
  have hiI : (p.i : Int) ≤ 100000 := by omega
  obtain ⟨b, hb⟩ : ∃ b, W.heap.size = b := ⟨_, rfl⟩
  cases hs : isV x.ts p s with
  | true =>
    have e1 : wantV x.ts s p = p.next := by rw [wantV, if_pos hs]
    rw [e1]
    rw [hs] at his
    clear hs e1 h
    go_enter Tryz.func21, Tryz.ntmps21
    go_wp2_with fail
    generalize (W.alloc _).alloc _ = W1 at g0 b0 b1 ⊢
    rw [hb] at b0 b1
    refine (his W1 g0).mono ?_
    rintro e w2 ⟨rfl, g2⟩
    have B0 := g2.keep b0 (fun e => e)
    have B1 := g2.keep b1 (fun e => e)
    have G := g0.trans g2
    clear b0 b1
    obtain ⟨⟨c0, c1, c2, c3⟩, f0, f1, f2, f3⟩ := four_cells B0
    obtain ⟨⟨y0, y1, y2, y3⟩, v0, v1, v2, v3⟩ := four_cells B1
    have hl : b + 1 < w2.heap.size := (Array.getElem?_eq_some_iff.1 B1).1
    obtain ⟨S0, SG, SK⟩ := step4 G (by omega) B0
    have S1 := SK.keep B1 (by omega)
    go_wp2_with fail
    generalize w2.setCell ⟨b, 1, none⟩ _ = w3 at S0 SG SK S1 ⊢
    obtain ⟨hf, GF⟩ := fin4 SG (by omega) S1 (.slice x.a x.ts.length x.c) (.int .i64 ((p.i : Int) + 1)) (.int .i64 (p.d : Int)) (.int .i64 p.e)
    obtain ⟨⟨t0, t1, t2, t3⟩, _⟩ := four_cells hf
    exact bodyPost_ret (v := stv x p.next) (by simp [results, Tryz.results21, go_sem, t0, t1, t2, t3, Ps.next]) rfl ⟨rfl, GF⟩
  | false =>
    have e1 : wantV x.ts s p = failV 160 p := by rw [wantV, if_neg (by simp [hs])]
    rw [e1]
    rw [hs] at his
    clear hs e1 h
    generalize failV 160 p = q at hbad ⊢
    go_enter Tryz.func21, Tryz.ntmps21
    go_wp2_with fail
    generalize (W.alloc _).alloc _ = W1 at g0 b0 b1 ⊢
    rw [hb] at b0 b1
    refine (his W1 g0).mono ?_
    rintro e w2 ⟨rfl, g2⟩
    have B0 := g2.keep b0 (fun e => e)
    have B1 := g2.keep b1 (fun e => e)
    have G := g0.trans g2
    clear b0 b1
    obtain ⟨⟨c0, c1, c2, c3⟩, f0, f1, f2, f3⟩ := four_cells B0
    have hl : b + 1 < w2.heap.size := (Array.getElem?_eq_some_iff.1 B1).1
    go_wp2_with fail
    refine (hbad w2).mono ?_
    rintro e w3 ⟨rfl, g3⟩
    have B3 := g3.keep B1 (fun e => e)
    have G3 := G.trans g3
    obtain ⟨⟨y0, y1, y2, y3⟩, v0, v1, v2, v3⟩ := four_cells B3
    have hl3 : b + 1 < w3.heap.size := (Array.getElem?_eq_some_iff.1 B3).1
    go_wp2_with fail
    obtain ⟨hf, GF⟩ := fin4 G3 (by omega) B3 (.slice x.a x.ts.length x.c) (.int .i64 (q.i : Int)) (.int .i64 (q.d : Int)) (.int .i64 q.e)
    obtain ⟨⟨t0, t1, t2, t3⟩, _⟩ := four_cells hf
    exact bodyPost_ret (v := stv x q) (by simp [results, Tryz.results21, go_sem, t0, t1, t2, t3]) rfl ⟨rfl, GF⟩
/-- One deeper. -/
def sinkV (p : Ps) : Ps := if p.e = 0 then (if p.d = 40 then failV 161 p else p.deep) else p
set_option maxRecDepth 100000 in
set_option maxHeartbeats 1600000 in
theorem rsink_c (h : Rz x W p) : Calls Tryz.prog 52 #[stv x p] W fun e w' => e = .returned (stv x (sinkV p)) ∧ Gr (fun _ => False) W w' := by
  have hm := h.hm
  have hi := h.hi
  have hd := h.hd
  have g0 := G2 W (stb x p) zs
  have hbad := fun w => rbad_c (x := x) w p 161
  by_cases he : p.e = 0
  · by_cases h40 : p.d = 40
    · have e1 : sinkV p = failV 161 p := by rw [sinkV, if_pos he, if_pos h40]
      have q1 : (p.e == 0) = true := by simp [he]
      have q2 : ((p.d : Int) == 40) = true := by simp [h40]
      have b1 : ((W.alloc (stb x p)).alloc zs).heap[W.heap.size + 1]? = some zs := by
        have := heap_alloc_new (W.alloc (stb x p)) zs
        simpa using this
      rw [e1]
      clear e1 h
      generalize failV 161 p = q at hbad ⊢
      obtain ⟨b, hb⟩ : ∃ b, W.heap.size = b := ⟨_, rfl⟩
      replace he := Lib.hid he
      replace h40 := Lib.hid h40
      go_enter Tryz.func52, Tryz.ntmps52
      go_wp2_with fail
      generalize (W.alloc _).alloc _ = W1 at g0 b1 ⊢
      rw [hb] at b1
      refine (hbad W1).mono ?_
      rintro e w3 ⟨rfl, g3⟩
      have B3 := g3.keep b1 (fun e => e)
      have G3 := g0.trans g3
      obtain ⟨⟨y0, y1, y2, y3⟩, v0, v1, v2, v3⟩ := four_cells B3
      have hl3 : b + 1 < w3.heap.size := (Array.getElem?_eq_some_iff.1 B3).1
      go_wp2_with fail
      obtain ⟨hf, GF⟩ := fin4 G3 (by omega) B3 (.slice x.a x.ts.length x.c) (.int .i64 (q.i : Int)) (.int .i64 (q.d : Int)) (.int .i64 q.e)
      obtain ⟨⟨t0, t1, t2, t3⟩, _⟩ := four_cells hf
      exact bodyPost_ret (v := stv x q) (by simp [results, Tryz.results52, go_sem, t0, t1, t2, t3]) rfl ⟨rfl, GF⟩
    · have e1 : sinkV p = p.deep := by rw [sinkV, if_pos he, if_neg h40]
      have q1 : (p.e == 0) = true := by simp [he]
      have q2 : ((p.d : Int) == 40) = false := by simp; omega
      have hiI : (p.i : Int) ≤ 100000 := by omega
      have hdI : (p.d : Int) ≤ 40 := by omega
      rw [e1]
      clear e1 h hbad
      replace he := Lib.hid he
      replace h40 := Lib.hid h40
      go_enter Tryz.func52, Tryz.ntmps52
      go_wp2_with fail
      exact bodyPost_ret (v := stv x p.deep) (by simp [results, Tryz.results52, go_sem, Ps.deep]) rfl ⟨rfl, G2 W _ _⟩
  · have e1 : sinkV p = p := by rw [sinkV, if_neg he]
    have q1 : (p.e == 0) = false := by simpa using he
    rw [e1]
    clear e1 h hbad
    replace he := Lib.hid he
    go_enter Tryz.func52, Tryz.ntmps52
    go_wp2_with fail
    exact bodyPost_ret (v := stv x p) (by simp [results, Tryz.results52, go_sem]) rfl ⟨rfl, G2 W _ _⟩
set_option maxRecDepth 100000 in
set_option maxHeartbeats 1600000 in
theorem rrise_c (W : World) (p q : Ps) : Calls Tryz.prog 53 #[stv x p, stv x q] W fun e w' => e = .returned (stv x (p.back q.d)) ∧ Gr (fun _ => False) W w' := by
  go_enter Tryz.func53, Tryz.ntmps53
  go_wp2_with fail
  exact bodyPost_ret (v := stv x (p.back q.d)) (by simp [results, Tryz.results53, go_sem, Ps.back]) rfl ⟨rfl, (G2 W _ _).trans (Gr.alloc _ _ _)⟩
end Go.Proofs.YtggkjkkbkpnkiaaGreatDoor

namespace Go.Proofs.YtggkjkkbkpnkiaaGreatDoor
open Go.RowKit Go.Maps
variable {x : Kx} {W W' : World} {p p' : Ps}
/-- How a rule of the reference ends: the state, and a tree where nothing is wrong. -/
def EndX (x : Kx) (W : World) (p : Ps) (e : Ending) (w' : World) (r : Tr × Ps) : Prop :=
  ∃ (k : Int) (s : ByteArray) (n : Int) (a1 : Option Addr) (n1 c1 : Nat) (a2 : Option Addr) (n2 c2 : Nat), e = .returned (.tuple #[stv x r.2, trv k s n (.slice a1 n1 c1) (.slice a2 n2 c2)]) ∧
    (r.2.e = 0 → Rep (fun z => W.heap.size ≤ z) w' r.1 (trv k s n (.slice a1 n1 c1) (.slice a2 n2 c2))) ∧ (r.2.d = p.d ∧ p.i ≤ r.2.i ∧ r.2.i ≤ x.ts.length) ∧ Gr (fun _ => False) W w'
def ROk (x : Kx) (n d : Nat) (g : Rule) : Prop := ∀ (W : World) (p : Ps), Rz x W p → p.d = d → Calls Tryz.prog n #[stv x p] W fun e w' => EndX x W p e w' (g p)
/-- A row of trees of the call's own whose blocks are in P, right where nothing is wrong. -/
def LrE (base : Nat) (P : Nat → Prop) (W : World) (l : List Tr) (v : Value) (q : Ps) : Prop :=
  base ≤ W.heap.size ∧ ∃ (m : Nat) (xs : List Value), W.ownsRow base 30 5 v m xs ∧ (m ≤ q.i + 1 ∧ ∀ u ∈ xs, u.oneCell' = true) ∧ (∀ k, v.ownBlock = some k → P k) ∧ (q.e = 0 → m = l.length ∧ ∃ vs, xs = vs.flatMap cellsOf ∧ Reps (fun z => P z ∧ v.ownBlock ≠ some z) W l vs)
theorem LrE.gr {S P : Nat → Prop} {base : Nat} {l : List Tr} {v : Value} {q : Ps} (h : LrE base P W l v q) (g : Gr S W W') (hs : ∀ k, P k → ¬ S k) : LrE base P W' l v q := by
  obtain ⟨h0, m, xs, h1, h2, hp, h3⟩ := h
  refine ⟨Nat.le_trans h0 g.size, m, xs, ownsRow_of_block h1 (fun k hk h2 => g.block k (ownsRow_lt h1 k h2).2 (hs k (hp k h2))), h2, hp, fun he => ?_⟩
  obtain ⟨h4, vs, h5, h6⟩ := h3 he
  exact ⟨h4, vs, h5, h6.turn (fun z hz hl => ⟨hz, g.block z hl (hs z hz.1)⟩)⟩
theorem LrE.sv {P : Nat → Prop} {base : Nat} {l : List Tr} {v : Value} {q : Ps} (h : LrE base P W l v q) : ∃ a n c, v = .slice a n c := by
  obtain ⟨_, m, xs, h1, _⟩ := h
  obtain ⟨a, c, e⟩ := ownsRow_sv h1
  exact ⟨a, m, c, e⟩
theorem LrE.imp {P P' : Nat → Prop} {base : Nat} {l : List Tr} {v : Value} {q : Ps} (h : LrE base P W l v q) (hP : ∀ k, k < W.heap.size → P k → P' k) : LrE base P' W l v q := by
  obtain ⟨h0, m, xs, h1, h2, hp, h3⟩ := h
  refine ⟨h0, m, xs, h1, h2, fun k hk => hP k (ownsRow_lt h1 k hk).2 (hp k hk), fun he => ?_⟩
  obtain ⟨h4, vs, h5, h6⟩ := h3 he
  exact ⟨h4, vs, h5, h6.turn (fun z hz hl => ⟨⟨hP z hl hz.1, hz.2⟩, rfl⟩)⟩
theorem LrE.st {P : Nat → Prop} {base : Nat} {l : List Tr} {v : Value} {q q' : Ps} (h : LrE base P W l v q) (hi : q.i ≤ q'.i) (he : q'.e = 0 → q.e = 0) : LrE base P W l v q' := by
  obtain ⟨h0, m, xs, h1, h2, hp, h3⟩ := h
  exact ⟨h0, m, xs, h1, ⟨by omega, h2.2⟩, hp, fun e => h3 (he e)⟩
theorem LrE.one {P : Nat → Prop} {base : Nat} {T : Tr} {q : Ps} {k n : Int} {s : ByteArray} {bv lv : Value} (hb : base ≤ W.heap.size) (hP : ∀ z, base ≤ z → P z) (h : q.e = 0 → Rep (fun z => base ≤ z) W T (trv k s n bv lv)) (hone : bv.oneCell' = true ∧ lv.oneCell' = true) :
    LrE base P (W.alloc (.cells #[.int .i64 k, .string s, .int .i64 n, bv, lv] 30)) [T] (.slice (some ⟨W.heap.size, 0, none⟩) 1 1) q := by
  have h1 := World.ownsRow_lit (base := base) (e := 30) (size := 5) W #[.int .i64 k, .string s, .int .i64 n, bv, lv] 1 hb (by unfold maxLen; omega) rfl
  refine ⟨by simp; omega, 1, _, h1, ⟨by omega, fun u hu => by
    simp only [List.mem_cons, List.not_mem_nil, or_false] at hu
    rcases hu with rfl | rfl | rfl | rfl | rfl
    · rfl
    · rfl
    · rfl
    · exact hone.1
    · exact hone.2⟩, fun k hk => ?_, fun he => ⟨rfl, [trv k s n bv lv], rfl, _, [], rfl, ?_, rfl⟩⟩
  · have : k = W.heap.size := by simp [Value.ownBlock] at hk; omega
    exact hP k (by omega)
  · exact (h he).turn (fun z hz hl => ⟨⟨hP z hz, by simp [Value.ownBlock]; omega⟩, heap_alloc_old W _ hl⟩)
theorem LrE.nil {P : Nat → Prop} {base : Nat} {q : Ps} (hb : base ≤ W.heap.size) : LrE base P W [] nl q := ⟨hb, 0, [], World.ownsRow_nil _ _ _ _, ⟨Nat.zero_le _, fun u h => by cases h⟩, (fun k h => by cases h), fun _ => ⟨rfl, [], rfl, rfl⟩⟩
/-- One tree more. -/
theorem LrE.grown {P : Nat → Prop} {base m : Nat} {l : List Tr} {u v' : Value} {k n : Int} {s : ByteArray} {bv lv : Value} {T : Tr} {q q' : Ps} {xs : List Value} (hb : base ≤ W.heap.size) (hrow : W.ownsRow base 30 5 u m xs) (hm : m ≤ q.i ∧ ∀ u ∈ xs, u.oneCell' = true) (hi : q.i ≤ q'.i) (hp : ∀ k, u.ownBlock = some k → P k) (hP : ∀ z, W.heap.size ≤ z → P z)
    (h3 : q.e = 0 → m = l.length ∧ ∃ vs, xs = vs.flatMap cellsOf ∧ Reps (fun z => P z ∧ u.ownBlock ≠ some z) W l vs) (hq : q'.e = 0 → q.e = 0)
    (hrep : q'.e = 0 → Rep (fun z => P z ∧ u.ownBlock ≠ some z) W T (trv k s n bv lv)) (h5 : W.grownBy W' u.ownBlock) (hloc : v'.ownBlock = u.ownBlock ∨ v'.ownBlock = some W.heap.size)
    (hrow' : W'.ownsRow base 30 5 v' (m + 1) (xs ++ [.int .i64 k, .string s, .int .i64 n, bv, lv])) (hone : bv.oneCell' = true ∧ lv.oneCell' = true) : LrE base P W' (l ++ [T]) v' q' := by
  have hT : Turn (fun z => P z ∧ u.ownBlock ≠ some z) (fun z => P z ∧ v'.ownBlock ≠ some z) W W' := fun z hz hl => by
    have h1 : v'.ownBlock ≠ some z := by
      rcases hloc with e | e
      · rw [e]; exact hz.2
      · rw [e]; intro e2; cases e2; omega
    exact ⟨⟨hz.1, h1⟩, h5.block z hl (fun e => hz.2 e.symm)⟩
  refine ⟨Nat.le_trans hb h5.size, m + 1, _, hrow', ⟨by have := hm.1; omega, fun u hu => by
    rcases List.mem_append.1 hu with hu | hu
    · exact hm.2 u hu
    · simp only [List.mem_cons, List.not_mem_nil, or_false] at hu
      rcases hu with rfl | rfl | rfl | rfl | rfl
      · rfl
      · rfl
      · rfl
      · exact hone.1
      · exact hone.2⟩, fun k hk => ?_, fun he => ?_⟩
  · rcases hloc with e | e
    · exact hp k (e ▸ hk)
    · rw [e] at hk; cases hk; exact hP _ (Nat.le_refl _)
  · obtain ⟨h4, vs, h6, h7⟩ := h3 (hq he)
    refine ⟨by rw [List.length_append, List.length_singleton, h4], vs ++ [trv k s n bv lv], ?_, (h7.turn hT).snoc ((hrep he).turn hT)⟩
    rw [h6, List.flatMap_append]; rfl
/-- How a rule that answers a row ends. -/
def EndLX (x : Kx) (base : Nat) (W : World) (p : Ps) (e : Ending) (w' : World) (r : List Tr × Ps) : Prop :=
  ∃ v, e = .returned (.tuple #[stv x r.2, v]) ∧ LrE base (fun z => base ≤ z) w' r.1 v r.2 ∧ (r.2.d = p.d ∧ p.i ≤ r.2.i ∧ r.2.i ≤ x.ts.length) ∧ Gr (fun k => base ≤ k) W w'
theorem isV_lt' {ts : List Tn} {q : Ps} {s : ByteArray} (h : isV ts q s = true) : q.e = 0 ∧ q.i < ts.length := by
  have hk : (pkT ts q).k ≠ 0 := by
    intro e
    simp [isV, e] at h
  by_cases he : q.e = 0
  · refine ⟨he, ?_⟩
    rcases Nat.lt_or_ge q.i ts.length with hl | hl
    · exact hl
    · exfalso; apply hk
      rw [pkT, if_pos he, List.getElem?_eq_none hl]; rfl
  · exfalso; apply hk
    rw [pkT, if_neg he]
theorem more_x {w4 X : World} {b : Nat} {q' : Ps} {tk tn : Int} {tt : ByteArray} {u1 u2 : Value} (hb : b < w4.heap.size) (h0 : w4.heap[b]? = some (stb x p))
    (hX : (((set4 w4 b (.slice x.a x.ts.length x.c) (.int .i64 (q'.i : Int)) (.int .i64 (q'.d : Int)) (.int .i64 q'.e)).alloc (stb x q')).alloc (.cells #[.int .i64 tk, .string tt, .int .i64 tn, u1, u2] 30)).alloc (.cells #[.int .i64 tk, .string tt, .int .i64 tn, u1, u2] 30) = X) :
    Gr (fun k => k = b) w4 X ∧ X.heap[b]? = some (stb x q') ∧ X.heap.size = w4.heap.size + 3 ∧ ∀ j u, [.int .i64 tk, .string tt, .int .i64 tn, u1, u2][j]? = some u → X.cell? ((⟨w4.heap.size + 1 + 1, 0, none⟩ : Addr).add j) = some u := by
  have gs := set4_gr w4 b (.slice x.a x.ts.length x.c) (.int .i64 (q'.i : Int)) (.int .i64 (q'.d : Int)) (.int .i64 q'.e)
  have hf := set4_heap h0 (.slice x.a x.ts.length x.c) (.int .i64 (q'.i : Int)) (.int .i64 (q'.d : Int)) (.int .i64 q'.e)
  have hsz : (set4 w4 b (.slice x.a x.ts.length x.c) (.int .i64 (q'.i : Int)) (.int .i64 (q'.d : Int)) (.int .i64 q'.e)).heap.size = w4.heap.size := by simp
  generalize set4 w4 b _ _ _ _ = w5 at gs hf hsz hX
  have gE := G2 w5 (stb x q') (.cells #[.int .i64 tk, .string tt, .int .i64 tn, u1, u2] 30)
  have hs6 : ((w5.alloc (stb x q')).alloc (.cells #[.int .i64 tk, .string tt, .int .i64 tn, u1, u2] 30)).heap.size = w4.heap.size + 1 + 1 := by simp [hsz]
  have hf6 := gE.keep hf (fun e => e)
  generalize (w5.alloc _).alloc _ = w6 at gE hs6 hf6 hX
  have hc := cell_five_new w6 (.int .i64 tk) (.string tt) (.int .i64 tn) u1 u2 30
  rw [hs6] at hc
  have ga := Gr.alloc w6 (.cells #[.int .i64 tk, .string tt, .int .i64 tn, u1, u2] 30) (fun _ => False)
  subst hX
  exact ⟨(gs.trans (gE.any _)).trans (ga.any _), ga.keep hf6 (fun e => e), by simp [hs6], hc⟩
set_option maxRecDepth 100000 in
set_option maxHeartbeats 1200000 in
theorem rmore_c (d : Nat) (ex : Rule) (hex : ROk x 39 d ex) (base : Nat) (l : List Tr) (v : Value) (h : Rz x W p) (hd : p.d = d) (hxb : x.N ≤ base) (hl : LrE base (fun z => base ≤ z) W l v p) :
    Calls Tryz.prog 40 #[stv x p, v] W fun e w' => EndLX x base W p e w' (sevL x.ts cma ex x.ts.length l p) := by
  obtain ⟨r, hr⟩ : ∃ r, r = sevL x.ts cma ex x.ts.length l p := ⟨_, rfl⟩
  rw [← hr]
  have Hr := Lib.hid hr
  clear hr
  obtain ⟨i0, hi0, hz0, hz1, hz2⟩ := info_parts info25
  obtain ⟨va, vn, vc, rfl⟩ := hl.sv
  have g0 := G2 W (stb x p) zs
  have b0 : ((W.alloc (stb x p)).alloc zs).heap[W.heap.size]? = some (stb x p) := (Gr.alloc _ _ (fun _ => False)).keep (heap_alloc_new W _) (fun e => e)
  have b1 : ((W.alloc (stb x p)).alloc zs).heap[W.heap.size + 1]? = some zs := by
    have := heap_alloc_new (W.alloc (stb x p)) zs
    simpa using this
  obtain ⟨b, hb⟩ : ∃ b, W.heap.size = b := ⟨_, rfl⟩
  have hbase := hl.1
  have L0 : LrE base (fun z => base ≤ z ∧ z ≠ b ∧ z ≠ b + 1) ((W.alloc (stb x p)).alloc zs) l (.slice va vn vc) p := (hl.imp (P' := fun z => base ≤ z ∧ z ≠ b ∧ z ≠ b + 1) (fun k hk h => ⟨h, by omega, by omega⟩)).gr g0 (fun _ _ e => e)
  have Hd := Lib.hid hd
  have hbW := Lib.hid hb
  clear hd
  go_enter Tryz.func40, Tryz.ntmps40
  go_wp2_with fail
  generalize (W.alloc _).alloc _ = W1 at g0 b0 b1 L0 ⊢
  rw [hb] at b0 b1
  have HL := Lib.hid L0
  have hxb' := Lib.hid hxb
  have hbase' := Lib.hid hbase
  clear L0 hl hb hbase hxb
  go_loopw [1] (fun u wr => ∃ (l' : List Tr) (q : Ps) (f : Nat), Hid (x.ts.length ≤ f + q.i) ∧ Hid (r = sevL x.ts cma ex f l' q) ∧ Hid (LrE base (fun z => base ≤ z ∧ z ≠ b ∧ z ≠ b + 1) wr l' u q) ∧ Rz x wr q ∧ wr.heap[b]? = some (stb x q) ∧ wr.heap[b + 1]? = some zs ∧ Hid (q.d = p.d ∧ p.i ≤ q.i ∧ q.i ≤ x.ts.length) ∧ Hid (Gr (fun k => base ≤ k) W wr)) (fun u wr => x.ts.length - atP wr b)
  case atStart => exact ⟨l, p, x.ts.length, by show _ ≤ _; omega, Hr, HL, h.g0 g0, b0, b1, ⟨rfl, Nat.le_refl _, h.hi⟩, g0.any _⟩
  case round =>
    obtain ⟨l', q, f, hf, Hq, hL, hR, B0, B1, hq, hG⟩ := hrel
    obtain ⟨⟨c0, c1, c2, c3⟩, f0, f1, f2, f3⟩ := four_cells B0
    have hbl : b + 1 < wr.heap.size := (Array.getElem?_eq_some_iff.1 B1).1
    have Hat : Hid (atP wr b = q.i) := by show _ = _; simp [atP, c1]
    have his := ris_c hR cma
    have hqI : (q.i : Int) ≤ 100000 := by have := hq.out; have := hR.hm; omega
    cases hs : isV x.ts q cma with
    | true =>
      obtain ⟨f, rfl⟩ : ∃ f', f = f' + 1 := ⟨f - 1, by have := hf.out; have := (isV_lt' hs); omega⟩
      have Hq2 : Hid (r = sevL x.ts cma ex f (l' ++ [(ex q.next).1]) (ex q.next).2) := by
        show r = _
        rw [Hq.out, sevL, if_pos hs]
      have hlt := Lib.hid (isV_lt' hs)
      rw [hs] at his
      clear hs Hq
      go_wp2_with fail
      refine his.mono ?_
      rintro e w2 ⟨rfl, g2⟩
      have C0 := g2.keep B0 (fun e => e)
      have C1 := g2.keep B1 (fun e => e)
      have L2 := Lib.hid (hL.out.gr g2 (fun _ _ e => e))
      have R2 := hR.g0 g2
      have G2' := Lib.hid (hG.out.trans (g2.any _))
      clear c0 c1 c2 c3 f0 f1 f2 f3 his
      obtain ⟨⟨c0, c1, c2, c3⟩, f0, f1, f2, f3⟩ := four_cells C0
      have hl2 : b + 1 < w2.heap.size := (Array.getElem?_eq_some_iff.1 C1).1
      have hl3 : Hid (b + 1 < (w2.setCell ⟨b, 1, none⟩ (.int .i64 ((q.i : Int) + 1))).heap.size) := by show _ < _; simpa using hl2
      have gs : Gr (fun k => k = b) w2 (w2.setCell ⟨b, 1, none⟩ (.int .i64 ((q.i : Int) + 1))) := Gr.set _ _ _ rfl
      have S0 : (w2.setCell ⟨b, 1, none⟩ (.int .i64 ((q.i : Int) + 1))).heap[b]? = some (stb x q.next) := heap_setCell_same w2 b 1 _ 45 _ C0
      have S1 := gs.keep C1 (by omega)
      have hNb : Hid (x.N ≤ b) := by have := hxb'.out; have := hbase'.out; have := hbW.out; show _ ≤ _; omega
      have R3 : Rz x (w2.setCell ⟨b, 1, none⟩ (.int .i64 ((q.i : Int) + 1))) q.next := (R2.gr gs (fun k hk e => by have := hNb.out; omega)).to (by show q.i + 1 ≤ _; have := hlt.out; omega) R2.hd
      have L3 := Lib.hid (L2.out.gr gs (fun k hk e => hk.2.1 e))
      have G3 := Lib.hid (G2'.out.trans' gs (fun k hk e => by have := hbase'.out; have := hbW.out; show base ≤ k; omega))
      have hcall := Lib.hid (hex _ q.next R3 (by show q.d = d; rw [hq.out.1]; exact Hd.out))
      clear B0 B1 hbl
      go_wp2_with fail
      generalize w2.setCell ⟨b, 1, none⟩ _ = w3 at gs S0 S1 R3 L3 G3 hcall hl3 ⊢
      refine hcall.out.mono ?_
      rintro e w4 ⟨tk, tt, tn, a1, n1, c1', a2, n2, c2', rfl, rep4, hi4, g4⟩
      generalize (ex q.next).2 = q' at Hq2 rep4 hi4 ⊢
      generalize (ex q.next).1 = T' at Hq2 rep4 ⊢
      have D0 := g4.keep S0 (fun e => e)
      have D1 := g4.keep S1 (fun e => e)
      have L4 := Lib.hid (L3.out.gr g4 (fun _ _ e => e))
      have R4 := R3.g0 g4
      have G4 := Lib.hid (G3.out.trans (g4.any _))
      clear S0 S1 C0 C1 c0 c1 c2 c3 f0 f1 f2 f3 hcall
      have HD0 := Lib.hid D0
      have HD1 := Lib.hid D1
      have HR4 := Lib.hid R4
      have Hrep4 := Lib.hid rep4
      have Hi4 := Lib.hid hi4
      have Hg4 := Lib.hid g4
      obtain ⟨⟨c0, c1, c2, c3⟩, f0, f1, f2, f3⟩ := four_cells D0
      have hl4 : b + 1 < w4.heap.size := (Array.getElem?_eq_some_iff.1 D1).1
      have hl4' : b < w4.heap.size := by omega
      have hl4'' : b < w4.heap.size + 1 := by omega
      clear D0 D1 R4 rep4 hi4 g4 gs R3 R2 g2 hR g0 hex h
      obtain ⟨hLb, m, xs, hrow, hm, hown, hreps⟩ := L4.out
      have Hone := Lib.hid hm.2
      replace hm := hm.1
      have HS := Lib.hid (⟨hLb, hm, hown, hreps⟩ : base ≤ w4.heap.size ∧ m ≤ q.i + 1 ∧ (∀ k, u1.ownBlock = some k → base ≤ k ∧ k ≠ b ∧ k ≠ b + 1) ∧ (q.e = 0 → m = l'.length ∧ ∃ vs, xs = vs.flatMap cellsOf ∧ Reps (fun z => (base ≤ z ∧ z ≠ b ∧ z ≠ b + 1) ∧ u1.ownBlock ≠ some z) w4 l' vs))
      have hrowW := Lib.hid hrow
      obtain ⟨ua, uc, rfl⟩ := ownsRow_sv hrow
      have hmx : Hid (m ≤ 100001) := by have := hq.out; have := HR4.out.hm; show _ ≤ _; omega
      clear hLb hm hown hreps hrow L4
      go_wp2_with (first
        | (at_builtin; generalize hX : World.alloc (World.alloc (World.alloc (World.setCell _ _ _) _) _) _ = X; obtain ⟨gX, X0, Xs, Xc⟩ := more_x (by omega) HD0.out hX; have hrowX := ownsRow_of_block hrowW.out (fun k hk h2 => gX.block k (ownsRow_lt hrowW.out k h2).2 (HS.out.2.2.1 k h2).2.1); refine wpList_own2 _ rfl 28 _ _ rfl base 30 i0 (trv 0 e0 0 nl nl) 5 80 Tryz.underlying28 hi0 hz0 hz1 hz2 rfl (by decide) (.slice ua m uc) m xs ⟨w4.heap.size + 1 + 1, 0, none⟩ 1 1 [.int .i64 tk, .string tt, .int .i64 tn, .slice a1 n1 c1', .slice a2 n2 c2'] rfl rfl hrowX rfl Xc (by simp [Value.oneCell']) (by unfold maxLen; have := hmx.out; omega) (by have := hmx.out; omega) (by have := HS.out.1; omega) ?_; intro v' w5 hrow5 hgr5 hloc5; obtain ⟨a5, cap5, rfl⟩ := ownsRow_sv hrow5; clear hX)
        | fail)
      have Gg : Gr (fun k => (Value.slice ua m uc).ownBlock = some k) X w5 := Gr.of_grown hgr5 (fun z e => e)
      have hOw := HS.out.2.2.1
      have hOwn3 : ∀ k, (Value.slice ua m uc).ownBlock = some k → k < w3.heap.size := by
        obtain ⟨_, _, _, hr3, _⟩ := L3.out
        exact fun k hk => (ownsRow_lt hr3 k hk).2
      have n1 : Hid (x.ts.length ≤ f + q'.i) := by have := hf.out; have h6 : q.i + 1 ≤ q'.i := Hi4.out.2.1; show _ ≤ _; omega
      have n2 : Hid (LrE base (fun z => base ≤ z ∧ z ≠ b ∧ z ≠ b + 1) w5 (l' ++ [T']) (.slice a5 (m + 1) cap5) q') := by
        refine LrE.grown (q := q.next) (by have := HS.out.1; omega) hrowX ⟨show m ≤ q.i + 1 from HS.out.2.1, Hone.out⟩ Hi4.out.2.1 hOw (fun z hz => by have := HS.out.1; exact ⟨by omega, by omega, by omega⟩) (fun he => ?_) (fun _ => hlt.out.1) (fun he => ?_) hgr5 hloc5 hrow5 ⟨rfl, rfl⟩
        · obtain ⟨e1, vs, e2, e3⟩ := HS.out.2.2.2 he
          exact ⟨e1, vs, e2, e3.turn (fun z hz hl => ⟨hz, gX.block z hl hz.1.2.1⟩)⟩
        · refine (Hrep4.out he).turn (fun z hz hl => ?_)
          have hz' : w3.heap.size ≤ z := hz
          have h9 := hl3.out
          have h10 := hbase'.out
          have h11 := hbW.out
          refine ⟨⟨⟨by omega, by omega, by omega⟩, ?_⟩, gX.block z hl (by omega)⟩
          intro e
          have := hOwn3 z e
          omega
      have n3 : Rz x w5 q' := ((HR4.out.gr gX (fun k hk e => by have := hNb.out; omega)).gr Gg (fun k hk e => by have := (hOw k e).1; have := hxb'.out; omega)).to Hi4.out.2.2 (by have := Hi4.out.1; have h7 : q.next.d = q.d := rfl; have := HR4.out.hd; omega)
      have n4 : w5.heap[b]? = some (stb x q') := Gg.keep X0 (fun e => (hOw b e).2.1 rfl)
      have n5 : w5.heap[b + 1]? = some zs := Gg.keep (gX.keep HD1.out (by omega)) (fun e => (hOw (b + 1) e).2.2 rfl)
      have n6 : Hid (q'.d = p.d ∧ p.i ≤ q'.i ∧ q'.i ≤ x.ts.length) := by
        have h6 : q.i + 1 ≤ q'.i := Hi4.out.2.1
        have h7 : q'.d = q.d := Hi4.out.1
        have h8 := hq.out
        exact ⟨by omega, by omega, Hi4.out.2.2⟩
      have n7 : Hid (Gr (fun k => base ≤ k) W w5) := (G4.out.trans' gX (fun k hk e => by have := hbase'.out; have := hbW.out; show base ≤ k; omega)).trans' Gg (fun k hk e => (hOw k e).1)
      have n8 : x.ts.length - atP w5 b < x.ts.length - atP wr b := by
        have ea : atP w5 b = q'.i := by
          obtain ⟨⟨_, e1, _, _⟩, _⟩ := four_cells n4
          simp [atP, e1]
        rw [ea, Hat.out]
        have h6 : q.i + 1 ≤ q'.i := Hi4.out.2.1
        have h7 := hlt.out.2
        have h8 := Hi4.out.2.2
        omega
      exact ⟨⟨_, q', f, n1, Hq2, n2, n3, n4, n5, n6, n7⟩, n8⟩
    | false =>
      have Hq2 : r = (l', q) := by
        rw [Hq.out]
        cases f with
        | zero => rfl
        | succ f => rw [sevL, if_neg (by simp [hs])]
      subst Hq2
      rw [hs] at his
      obtain ⟨sa, sn, sc, rfl⟩ := hL.out.sv
      clear hs Hq
      go_wp2_with fail
      refine his.mono ?_
      rintro e w2 ⟨rfl, g2⟩
      have C0 := g2.keep B0 (fun e => e)
      have C1 := g2.keep B1 (fun e => e)
      have L2 := hL.out.gr g2 (fun _ _ e => e)
      have G2' := hG.out.trans (g2.any _)
      clear c0 c1 c2 c3 f0 f1 f2 f3 his
      have hl2 : b + 1 < w2.heap.size := (Array.getElem?_eq_some_iff.1 C1).1
      have gs := set4_gr w2 (b + 1) (.slice x.a x.ts.length x.c) (.int .i64 (q.i : Int)) (.int .i64 (q.d : Int)) (.int .i64 q.e)
      have hf4 := set4_heap C1 (.slice x.a x.ts.length x.c) (.int .i64 (q.i : Int)) (.int .i64 (q.d : Int)) (.int .i64 q.e)
      have L3 := Lib.hid ((L2.gr gs (fun k hk e => hk.2.2 e)).imp (P' := fun z => base ≤ z) (fun k _ h => h.1))
      have G3 := Lib.hid (G2'.trans' gs (fun k hk e => by have := hbase'.out; have := hbW.out; show base ≤ k; omega))
      obtain ⟨⟨c0, c1, c2, c3⟩, f0, f1, f2, f3⟩ := four_cells C0
      obtain ⟨⟨y0, y1, y2, y3⟩, v0, v1, v2, v3⟩ := four_cells C1
      obtain ⟨⟨t0, t1, t2, t3⟩, _⟩ := four_cells hf4
      obtain ⟨wF, hwF⟩ : ∃ wF, set4 w2 (b + 1) (.slice x.a x.ts.length x.c) (.int .i64 (q.i : Int)) (.int .i64 (q.d : Int)) (.int .i64 q.e) = wF := ⟨_, rfl⟩
      rw [hwF] at L3 G3 t0 t1 t2 t3
      replace t0 := Lib.hid t0
      replace t1 := Lib.hid t1
      replace t2 := Lib.hid t2
      replace t3 := Lib.hid t3
      replace hwF := Lib.hid hwF
      clear hf4 gs L2 G2' B0 B1
      go_wp2_with fail
      rw [show (((w2.setCell ⟨b + 1, 0, none⟩ (.slice x.a x.ts.length x.c)).setCell ⟨b + 1, 1, none⟩ (.int .i64 (q.i : Int))).setCell ⟨b + 1, 2, none⟩ (.int .i64 (q.d : Int))).setCell ⟨b + 1, 3, none⟩ (.int .i64 q.e) = wF from hwF.out]
      refine bodyPost_ret (v := .tuple #[stv x q, .slice sa sn sc]) (by simp [results, Tryz.results40, go_sem, t0.out, t1.out, t2.out, t3.out]) rfl ⟨_, rfl, L3.out, hq.out, G3.out⟩
end Go.Proofs.YtggkjkkbkpnkiaaGreatDoor

namespace Go.Proofs.YtggkjkkbkpnkiaaGreatDoor
open Go.RowKit Go.Maps
variable {x : Kx} {W W' : World} {p p' : Ps}
def bodyV (ts : List Tn) (ex : Rule) (p : Ps) : Tr × Ps := (.mk 16 e0 0 [] (sevV ts cma ex p).1, (sevV ts cma ex p).2)
abbrev zt : Obj := .cells zc 30 (0, 0)
/-- A call's first three blocks. -/
theorem open3 (W : World) (p : Ps) : Gr (fun _ => False) W (((W.alloc (stb x p)).alloc zs).alloc zt) ∧ (((W.alloc (stb x p)).alloc zs).alloc zt).heap[W.heap.size]? = some (stb x p) ∧ (((W.alloc (stb x p)).alloc zs).alloc zt).heap[W.heap.size + 1]? = some zs ∧
    (((W.alloc (stb x p)).alloc zs).alloc zt).heap[W.heap.size + 2]? = some zt ∧ (((W.alloc (stb x p)).alloc zs).alloc zt).heap.size = W.heap.size + 3 := by
  have g1 := Gr.alloc (W.alloc (stb x p)) zs (fun _ => False)
  have g2 := Gr.alloc ((W.alloc (stb x p)).alloc zs) zt (fun _ => False)
  have h1 : ((W.alloc (stb x p)).alloc zs).heap[W.heap.size + 1]? = some zs := by
    have := heap_alloc_new (W.alloc (stb x p)) zs
    simpa using this
  have h2 : (((W.alloc (stb x p)).alloc zs).alloc zt).heap[W.heap.size + 2]? = some zt := by
    have := heap_alloc_new ((W.alloc (stb x p)).alloc zs) zt
    simpa using this
  exact ⟨((Gr.alloc W _ _).trans g1).trans g2, g2.keep (g1.keep (heap_alloc_new W _) (fun e => e)) (fun e => e), g2.keep h1 (fun e => e), h2, by simp⟩
/-- The end of a call that answers a state and a tree. -/
theorem end3 {w : World} {b : Nat} {q : Ps} {T : Tr} {k n : Int} {s : ByteArray} {bv lv : Value} {x0 x1 x2 x3 y0 y1 y2 y3 y4 : Value} (G : Gr (fun _ => False) W w) (hb : W.heap.size = b) (h1 : w.heap[b + 1]? = some (.cells #[x0, x1, x2, x3] 45 (0, 0))) (h2 : w.heap[b + 2]? = some (.cells #[y0, y1, y2, y3, y4] 30 (0, 0)))
    (hR : q.e = 0 → Rep (fun z => b + 3 ≤ z) w T (trv k s n bv lv)) :
    (set5 (set4 w (b + 1) (.slice x.a x.ts.length x.c) (.int .i64 (q.i : Int)) (.int .i64 (q.d : Int)) (.int .i64 q.e)) (b + 2) (.int .i64 k) (.string s) (.int .i64 n) bv lv).heap[b + 1]? = some (stb x q) ∧
    (set5 (set4 w (b + 1) (.slice x.a x.ts.length x.c) (.int .i64 (q.i : Int)) (.int .i64 (q.d : Int)) (.int .i64 q.e)) (b + 2) (.int .i64 k) (.string s) (.int .i64 n) bv lv).heap[b + 2]? = some (.cells #[.int .i64 k, .string s, .int .i64 n, bv, lv] 30 (0, 0)) ∧
    (q.e = 0 → Rep (fun z => W.heap.size ≤ z) (set5 (set4 w (b + 1) (.slice x.a x.ts.length x.c) (.int .i64 (q.i : Int)) (.int .i64 (q.d : Int)) (.int .i64 q.e)) (b + 2) (.int .i64 k) (.string s) (.int .i64 n) bv lv) T (trv k s n bv lv)) ∧
    Gr (fun _ => False) W (set5 (set4 w (b + 1) (.slice x.a x.ts.length x.c) (.int .i64 (q.i : Int)) (.int .i64 (q.d : Int)) (.int .i64 q.e)) (b + 2) (.int .i64 k) (.string s) (.int .i64 n) bv lv) := by
  have g4 := set4_gr w (b + 1) (.slice x.a x.ts.length x.c) (.int .i64 (q.i : Int)) (.int .i64 (q.d : Int)) (.int .i64 q.e)
  have f4 := set4_heap h1 (.slice x.a x.ts.length x.c) (.int .i64 (q.i : Int)) (.int .i64 (q.d : Int)) (.int .i64 q.e)
  have k2 := g4.keep h2 (by omega)
  generalize set4 w (b + 1) _ _ _ _ = w1 at *
  have g5 := set5_gr w1 (b + 2) (.int .i64 k) (.string s) (.int .i64 n) bv lv
  have f5 := set5_heap k2 (.int .i64 k) (.string s) (.int .i64 n) bv lv
  refine ⟨g5.keep f4 (by omega), f5, fun he => (hR he).turn (fun z hz hl => ?_), (G.trans' g4 (fun i hi e => by omega)).trans' g5 (fun i hi e => by omega)⟩
  have hz' : b + 3 ≤ z := hz
  exact ⟨by omega, (g5.block z (Nat.lt_of_lt_of_le hl g4.size) (by omega)).trans (g4.block z hl (by omega))⟩
/-- A tree made of a row. -/
theorem LrE.tree {base : Nat} {l : List Tr} {a : Option Addr} {m c : Nat} {q : Ps} (h : LrE base (fun z => base ≤ z) W l (.slice a m c) q) (he : q.e = 0) (k : Int) (s : ByteArray) : Rep (fun z => base ≤ z) W (.mk k s 0 [] l) (trv k s 0 nl (.slice a m c)) := by
  obtain ⟨h0, m', xs, h1, h2, hp, h3⟩ := h
  obtain ⟨h4, vs, h5, h6⟩ := h3 he
  subst h4 h5
  exact ⟨nl, _, vs, rfl, .inl ⟨rfl, _, _, rfl⟩, rowT_own h1, h6.turn (fun z hz hl => ⟨hz.1, rfl⟩)⟩
theorem one_x {w2 X : World} {b : Nat} {q : Ps} {T : Tr} {tk tn : Int} {tt : ByteArray} {u1 u2 : Value} (hX : ((set4 w2 b (.slice x.a x.ts.length x.c) (.int .i64 (q.i : Int)) (.int .i64 (q.d : Int)) (.int .i64 q.e)).alloc (.cells #[.int .i64 tk, .string tt, .int .i64 tn, u1, u2] 30)).alloc (.cells #[.int .i64 tk, .string tt, .int .i64 tn, u1, u2] 30) = X)
    (hl : b + 3 ≤ w2.heap.size) (h0 : w2.heap[b]? = some (stb x p)) (hrep : q.e = 0 → Rep (fun z => b + 3 ≤ z) w2 T (trv tk tt tn u1 u2)) (hone : u1.oneCell' = true ∧ u2.oneCell' = true) :
    Gr (fun k => k = b) w2 X ∧ X.heap[b]? = some (stb x q) ∧ LrE (b + 3) (fun z => b + 3 ≤ z) X [T] (.slice (some ⟨w2.heap.size + 1, 0, none⟩) 1 1) q := by
  have gs := set4_gr w2 b (.slice x.a x.ts.length x.c) (.int .i64 (q.i : Int)) (.int .i64 (q.d : Int)) (.int .i64 q.e)
  have hf := set4_heap h0 (.slice x.a x.ts.length x.c) (.int .i64 (q.i : Int)) (.int .i64 (q.d : Int)) (.int .i64 q.e)
  have hsz : (set4 w2 b (.slice x.a x.ts.length x.c) (.int .i64 (q.i : Int)) (.int .i64 (q.d : Int)) (.int .i64 q.e)).heap.size = w2.heap.size := by simp
  generalize set4 w2 b _ _ _ _ = w5 at gs hf hsz hX
  have ga := Gr.alloc w5 (.cells #[.int .i64 tk, .string tt, .int .i64 tn, u1, u2] 30) (fun _ => False)
  have hs6 : (w5.alloc (.cells #[.int .i64 tk, .string tt, .int .i64 tn, u1, u2] 30)).heap.size = w2.heap.size + 1 := by simp [hsz]
  have hf6 := ga.keep hf (fun e => e)
  have hr6 : q.e = 0 → Rep (fun z => b + 3 ≤ z) (w5.alloc (.cells #[.int .i64 tk, .string tt, .int .i64 tn, u1, u2] 30)) T (trv tk tt tn u1 u2) := fun he => (hrep he).turn (fun z hz hl => by
    have hz' : b + 3 ≤ z := hz
    exact ⟨hz, (ga.block z (Nat.lt_of_lt_of_le hl gs.size) (fun e => e)).trans (gs.block z hl (by omega))⟩)
  generalize w5.alloc _ = w6 at ga hs6 hf6 hr6 hX
  have gb := Gr.alloc w6 (.cells #[.int .i64 tk, .string tt, .int .i64 tn, u1, u2] 30) (fun _ => False)
  have hL := LrE.one (W := w6) (P := fun z => b + 3 ≤ z) (base := b + 3) (T := T) (q := q) (k := tk) (s := tt) (n := tn) (bv := u1) (lv := u2) (by omega) (fun z hz => hz) hr6 hone
  rw [hs6] at hL
  subst hX
  exact ⟨(gs.trans (ga.any _)).trans (gb.any _), gb.keep hf6 (fun e => e), hL⟩
set_option maxRecDepth 100000 in
set_option maxHeartbeats 1200000 in
theorem rbody_c (d : Nat) (ex : Rule) (hex : ROk x 39 d ex) : ROk x 23 d (bodyV x.ts ex) := by
  intro W p h hd
  obtain ⟨r, hr⟩ : ∃ r, r = bodyV x.ts ex p := ⟨_, rfl⟩
  rw [← hr]
  have Hr := Lib.hid hr
  clear hr
  obtain ⟨g0, b0, b1, b2, hz0⟩ := open3 (x := x) W p
  obtain ⟨b, hb⟩ : ∃ b, W.heap.size = b := ⟨_, rfl⟩
  have Hd := Lib.hid hd
  have hbW := Lib.hid hb
  have hNb : Hid (x.N ≤ b) := by have := h.hN; show _ ≤ _; omega
  clear hd
  go_enter Tryz.func23, Tryz.ntmps23
  go_wp2_with fail
  generalize ((W.alloc _).alloc _).alloc _ = W1 at g0 b0 b1 b2 hz0 ⊢
  rw [hb] at b0 b1 b2 hz0
  have R1 := h.g0 g0
  have hcall := hex W1 p R1 Hd.out
  clear hb h
  refine hcall.mono ?_
  rintro e w2 ⟨tk, tt, tn, a1, n1, c1, a2, n2, c2, rfl, rep2, hi2, g2⟩
  have HR : Hid (r = (.mk 16 e0 0 [] (sevL x.ts cma ex x.ts.length [(ex p).1] (ex p).2).1, (sevL x.ts cma ex x.ts.length [(ex p).1] (ex p).2).2)) := Hr.out
  generalize (ex p).2 = q at HR rep2 hi2 ⊢
  generalize (ex p).1 = T at HR rep2 ⊢
  have B0 := Lib.hid (g2.keep b0 (fun e => e))
  have B1 := Lib.hid (g2.keep b1 (fun e => e))
  have B2 := Lib.hid (g2.keep b2 (fun e => e))
  have R2 := Lib.hid (R1.g0 g2)
  have G2' := Lib.hid (g0.trans g2)
  have Hrep2 := Lib.hid rep2
  have Hi2 := Lib.hid hi2
  have hs2 : Hid (b + 3 ≤ w2.heap.size) := by have := g2.size; show _ ≤ _; omega
  obtain ⟨⟨c0, c1', c2', c3⟩, f0, f1, f2, f3⟩ := four_cells B0.out
  have hl := hs2.out
  have hl0 : b < w2.heap.size := by omega
  clear b0 b1 b2 R1 g0 rep2 hi2 hcall Hr
  have Hg2 := Lib.hid g2
  clear g2
  go_wp2_with fail
  generalize hX : ((set4 w2 b (.slice x.a x.ts.length x.c) (.int .i64 (q.i : Int)) (.int .i64 (q.d : Int)) (.int .i64 q.e)).alloc _).alloc _ = X
  obtain ⟨gX, X0, LX⟩ := one_x hX hl B0.out (fun he => (Hrep2.out he).turn (fun z hz hl => ⟨by have : W1.heap.size ≤ z := hz; omega, rfl⟩)) ⟨rfl, rfl⟩
  clear hX c0 c1' c2' c3 f0 f1 f2 f3
  have hm := rmore_c d ex hex (b + 3) [T] _ ((R2.out.gr gX (fun k hk e => by have := hNb.out; omega)).to Hi2.out.2.2 (by rw [Hi2.out.1]; exact R2.out.hd)) (by rw [Hi2.out.1]; exact Hd.out) (by have := hNb.out; omega) LX
  have B1' := Lib.hid (gX.keep B1.out (by omega))
  have B2' := Lib.hid (gX.keep B2.out (by omega))
  refine hm.mono ?_
  rintro e w3 ⟨v, rfl, L3, hi3, g3⟩
  generalize (sevL x.ts cma ex x.ts.length [T] q).2 = q' at HR L3 hi3 ⊢
  generalize (sevL x.ts cma ex x.ts.length [T] q).1 = l' at HR L3 ⊢
  obtain ⟨va, vn, vc, rfl⟩ := L3.sv
  have C0 := g3.keep X0 (by omega)
  have C1 := g3.keep B1'.out (by omega)
  have C2 := g3.keep B2'.out (by omega)
  have GX : Gr (fun _ => False) W w3 := (G2'.out.trans' gX (fun k hk e => by have := hbW.out; omega)).trans' g3 (fun k hk e => by have := hbW.out; omega)
  have gs := set4_gr w3 b (.slice x.a x.ts.length x.c) (.int .i64 (q'.i : Int)) (.int .i64 (q'.d : Int)) (.int .i64 q'.e)
  have D1 := gs.keep C1 (by omega)
  have D2 := gs.keep C2 (by omega)
  have GD : Gr (fun _ => False) W (set4 w3 b (.slice x.a x.ts.length x.c) (.int .i64 (q'.i : Int)) (.int .i64 (q'.d : Int)) (.int .i64 q'.e)) := GX.trans' gs (fun k hk e => by have := hbW.out; omega)
  have LD := L3.gr gs (fun k hk e => by have hk' : b + 3 ≤ k := hk; omega)
  have hl3 : b + 2 < w3.heap.size := (Array.getElem?_eq_some_iff.1 C2).1
  have hl3' : b + 1 < w3.heap.size := by omega
  have hl3'' : b < w3.heap.size := by omega
  obtain ⟨E1, E2, E3, E4⟩ := end3 GD hbW.out D1 D2 (fun he => LD.tree he 16 e0)
  obtain ⟨wF, hwF⟩ : ∃ wF, set5 (set4 (set4 w3 b (.slice x.a x.ts.length x.c) (.int .i64 (q'.i : Int)) (.int .i64 (q'.d : Int)) (.int .i64 q'.e)) (b + 1) (.slice x.a x.ts.length x.c) (.int .i64 (q'.i : Int)) (.int .i64 (q'.d : Int)) (.int .i64 q'.e)) (b + 2) (.int .i64 16) (.string e0) (.int .i64 0) nl (.slice va vn vc) = wF := ⟨_, rfl⟩
  rw [hwF] at E1 E2 E3 E4
  replace E1 := Lib.hid E1
  replace E2 := Lib.hid E2
  replace E3 := Lib.hid E3
  replace E4 := Lib.hid E4
  replace hwF := Lib.hid hwF
  replace hi3 := Lib.hid hi3
  obtain ⟨⟨c0, c1', c2', c3⟩, f0, f1, f2, f3⟩ := four_cells C0
  obtain ⟨⟨y0, y1, y2, y3⟩, v0, v1, v2, v3⟩ := four_cells C1
  obtain ⟨⟨m0, m1, m2, m3, m4⟩, o0, o1, o2, o3, o4⟩ := five_cells C2
  clear gs D1 D2 GD LD GX C0 C1 C2 g3 L3 X0 LX gX hm
  go_wp2_with fail
  rw [show ((((((((((((w3.setCell ⟨b, 0, none⟩ (.slice x.a x.ts.length x.c)).setCell ⟨b, 1, none⟩ (.int .i64 (q'.i : Int))).setCell ⟨b, 2, none⟩ (.int .i64 (q'.d : Int))).setCell ⟨b, 3, none⟩ (.int .i64 q'.e)).setCell ⟨b + 1, 0, none⟩ (.slice x.a x.ts.length x.c)).setCell ⟨b + 1, 1, none⟩ (.int .i64 (q'.i : Int))).setCell ⟨b + 1, 2, none⟩ (.int .i64 (q'.d : Int))).setCell ⟨b + 1, 3, none⟩ (.int .i64 q'.e)).setCell ⟨b + 1 + 1, 0, none⟩ (.int .i64 16)).setCell ⟨b + 1 + 1, 1, none⟩ (.string e0)).setCell ⟨b + 1 + 1, 2, none⟩ (.int .i64 0)).setCell ⟨b + 1 + 1, 3, none⟩ nl).setCell ⟨b + 1 + 1, 4, none⟩ (.slice va vn vc) = wF from hwF.out]
  have hr : r = (.mk 16 e0 0 [] l', q') := HR.out
  have E2' : wF.heap[b + 1 + 1]? = some (.cells #[.int .i64 16, .string e0, .int .i64 0, nl, .slice va vn vc] 30 (0, 0)) := E2.out
  have E1' := E1.out
  clear c0 c1' c2' c3 f0 f1 f2 f3 y0 y1 y2 y3 v0 v1 v2 v3 m0 m1 m2 m3 m4 o0 o1 o2 o3 o4
  obtain ⟨⟨t0, t1, t2, t3⟩, _⟩ := four_cells E1'
  obtain ⟨⟨s0, s1, s2, s3, s4⟩, _⟩ := five_cells E2'
  rw [hr]
  refine bodyPost_ret (v := .tuple #[stv x q', trv 16 e0 0 nl (.slice va vn vc)]) (by simp [results, Tryz.results23, go_sem, t0, t1, t2, t3, s0, s1, s2, s3, s4]) rfl ⟨16, e0, 0, none, 0, 0, va, vn, vc, rfl, E3.out, ?_, E4.out⟩
  have h1 := Hi2.out
  have h2 := hi3.out
  exact ⟨by show q'.d = p.d; omega, by show p.i ≤ q'.i; omega, h2.2.2⟩
end Go.Proofs.YtggkjkkbkpnkiaaGreatDoor

namespace Go.Proofs.YtggkjkkbkpnkiaaGreatDoor
open Go.RowKit Go.Maps
variable {x : Kx} {W W' : World} {p p' : Ps}
theorem one_y {w2 X : World} {b : Nat} {q : Ps} {T : Tr} {tk tn : Int} {tt : ByteArray} {u1 u2 : Value} (hX : ((w2.alloc (stb x q)).alloc (.cells #[.int .i64 tk, .string tt, .int .i64 tn, u1, u2] 30)).alloc (.cells #[.int .i64 tk, .string tt, .int .i64 tn, u1, u2] 30) = X)
    (hl : b ≤ w2.heap.size) (hrep : q.e = 0 → Rep (fun z => b ≤ z) w2 T (trv tk tt tn u1 u2)) (hone : u1.oneCell' = true ∧ u2.oneCell' = true) :
    Gr (fun _ => False) w2 X ∧ LrE b (fun z => b ≤ z) X [T] (.slice (some ⟨w2.heap.size + 1 + 1, 0, none⟩) 1 1) q := by
  have ga := G2 w2 (stb x q) (.cells #[.int .i64 tk, .string tt, .int .i64 tn, u1, u2] 30)
  have hs6 : ((w2.alloc (stb x q)).alloc (.cells #[.int .i64 tk, .string tt, .int .i64 tn, u1, u2] 30)).heap.size = w2.heap.size + 1 + 1 := by simp
  have hr6 : q.e = 0 → Rep (fun z => b ≤ z) ((w2.alloc (stb x q)).alloc (.cells #[.int .i64 tk, .string tt, .int .i64 tn, u1, u2] 30)) T (trv tk tt tn u1 u2) := fun he => (hrep he).turn (fun z hz hl => ⟨hz, ga.block z hl (fun e => e)⟩)
  generalize (w2.alloc _).alloc _ = w6 at ga hs6 hr6 hX
  have gb := Gr.alloc w6 (.cells #[.int .i64 tk, .string tt, .int .i64 tn, u1, u2] 30) (fun _ => False)
  have hL := LrE.one (W := w6) (P := fun z => b ≤ z) (base := b) (T := T) (q := q) (k := tk) (s := tt) (n := tn) (bv := u1) (lv := u2) (by omega) (fun z hz => hz) hr6 hone
  rw [hs6] at hL
  subst hX
  exact ⟨ga.trans gb, hL⟩
/-- The end of a call that answers a state and a row. -/
theorem LrE.mono {P : Nat → Prop} {base base' : Nat} {l : List Tr} {v : Value} {q : Ps} (h : LrE base P W l v q) (hb : base' ≤ base) : LrE base' P W l v q := by
  obtain ⟨h0, m, xs, h1, h2, hp, h3⟩ := h
  exact ⟨by omega, m, xs, ownsRow_base h1 hb, h2, hp, h3⟩
theorem wantV_i (ts : List Tn) (s : ByteArray) (p : Ps) (hi : p.i ≤ ts.length) : (wantV ts s p).d = p.d ∧ p.i ≤ (wantV ts s p).i ∧ (wantV ts s p).i ≤ ts.length ∧ ((wantV ts s p).e = 0 → p.e = 0) := by
  unfold wantV
  by_cases hs : isV ts p s = true
  · rw [if_pos hs]
    have := isV_lt' hs
    exact ⟨rfl, by show p.i ≤ p.i + 1; omega, by show p.i + 1 ≤ _; omega, fun h => h⟩
  · rw [if_neg hs]
    unfold failV
    by_cases he : p.e = 0
    · rw [if_pos he]; exact ⟨rfl, Nat.le_refl _, hi, fun _ => he⟩
    · rw [if_neg he]; exact ⟨rfl, Nat.le_refl _, hi, fun h => h⟩
set_option maxRecDepth 100000 in
set_option maxHeartbeats 1200000 in
theorem rlist_c (d : Nat) (ex : Rule) (hex : ROk x 39 d ex) (en : ByteArray) (h : Rz x W p) (hd : p.d = d) : Calls Tryz.prog 91 #[stv x p, .string en] W fun e w' => EndLX x W.heap.size W p e w' (uptoV x.ts en ex p) := by
  obtain ⟨r, hr⟩ : ∃ r, r = uptoV x.ts en ex p := ⟨_, rfl⟩
  rw [← hr]
  have Hr := Lib.hid hr
  clear hr
  have g0 := G2 W (stb x p) zs
  have b0 : ((W.alloc (stb x p)).alloc zs).heap[W.heap.size]? = some (stb x p) := (Gr.alloc _ _ (fun _ => False)).keep (heap_alloc_new W _) (fun e => e)
  have b1 : ((W.alloc (stb x p)).alloc zs).heap[W.heap.size + 1]? = some zs := by
    have := heap_alloc_new (W.alloc (stb x p)) zs
    simpa using this
  have hz0 : ((W.alloc (stb x p)).alloc zs).heap.size = W.heap.size + 2 := by simp
  obtain ⟨b, hb⟩ : ∃ b, W.heap.size = b := ⟨_, rfl⟩
  have Hd := Lib.hid hd
  have hbW := Lib.hid hb
  have hNb : Hid (x.N ≤ b) := by have := h.hN; show _ ≤ _; omega
  have his := ris_c (h.g0 g0) en
  clear hd
  cases hs : isV x.ts p en with
  | true =>
    have er : r = ([], wantV x.ts en p) := by rw [Hr.out, uptoV, if_pos hs]
    rw [hs] at his
    clear hs Hr
    subst er
    have R0 := Lib.hid (h.g0 g0)
    have hw := Lib.hid (fun w (g : Gr (fun _ => False) ((W.alloc (stb x p)).alloc zs) w) => rwant_c (R0.out.g0 g) en)
    have hwi := Lib.hid (wantV_i x.ts en p h.hi)
    generalize wantV x.ts en p = q at hw hwi ⊢
    clear h
    go_enter Tryz.func91, Tryz.ntmps91
    go_wp2_with fail
    generalize (W.alloc _).alloc _ = W1 at g0 b0 b1 hz0 his R0 hw ⊢
    rw [hb] at b0 b1 hz0
    refine his.mono ?_
    rintro e w2 ⟨rfl, g2⟩
    have C0 := g2.keep b0 (fun e => e)
    have C1 := g2.keep b1 (fun e => e)
    clear b0 b1 his
    obtain ⟨⟨c0, c1, c2, c3⟩, f0, f1, f2, f3⟩ := four_cells C0
    have hl2 : b + 1 < w2.heap.size := (Array.getElem?_eq_some_iff.1 C1).1
    have hl2' : b < w2.heap.size := by omega
    have hw2 := Lib.hid (hw.out w2 g2)
    go_wp2_with fail
    refine hw2.out.mono ?_
    rintro e w3 ⟨rfl, g3⟩
    have D1 := g3.keep C1 (fun e => e)
    have G3 := (g0.trans g2).trans g3
    have gs := set4_gr w3 (b + 1) (.slice x.a x.ts.length x.c) (.int .i64 (q.i : Int)) (.int .i64 (q.d : Int)) (.int .i64 q.e)
    have hf := set4_heap D1 (.slice x.a x.ts.length x.c) (.int .i64 (q.i : Int)) (.int .i64 (q.d : Int)) (.int .i64 q.e)
    have GF : Gr (fun k => b ≤ k) W (set4 w3 (b + 1) (.slice x.a x.ts.length x.c) (.int .i64 (q.i : Int)) (.int .i64 (q.d : Int)) (.int .i64 q.e)) := (G3.any _).trans' gs (fun k hk e => by show b ≤ k; omega)
    obtain ⟨⟨y0, y1, y2, y3⟩, v0, v1, v2, v3⟩ := four_cells D1
    have hl3 : b + 1 < w3.heap.size := (Array.getElem?_eq_some_iff.1 D1).1
    replace hf := Lib.hid hf
    replace GF := Lib.hid GF
    clear gs C0 C1 D1 G3 c0 c1 c2 c3 f0 f1 f2 f3
    go_wp2_with fail
    obtain ⟨wF, hwF⟩ : ∃ wF, set4 w3 (b + 1) (.slice x.a x.ts.length x.c) (.int .i64 (q.i : Int)) (.int .i64 (q.d : Int)) (.int .i64 q.e) = wF := ⟨_, rfl⟩
    rw [hwF] at hf GF
    rw [show (((w3.setCell ⟨b + 1, 0, none⟩ (.slice x.a x.ts.length x.c)).setCell ⟨b + 1, 1, none⟩ (.int .i64 (q.i : Int))).setCell ⟨b + 1, 2, none⟩ (.int .i64 (q.d : Int))).setCell ⟨b + 1, 3, none⟩ (.int .i64 q.e) = wF from hwF]
    clear hwF y0 y1 y2 y3 v0 v1 v2 v3
    have hf' := hf.out
    obtain ⟨⟨t0, t1, t2, t3⟩, _⟩ := four_cells hf'
    refine bodyPost_ret (v := .tuple #[stv x q, nl]) (by simp [results, Tryz.results91, go_sem, t0, t1, t2, t3]) rfl ⟨nl, rfl, LrE.nil (by have := GF.out.size; have := hbW.out; omega), ⟨hwi.out.1, hwi.out.2.1, hwi.out.2.2.1⟩, ?_⟩
    have h9 := hbW.out
    rw [h9]
    exact GF.out
  | false =>
    have hr1 : Hid (r = ((sevL x.ts cma ex x.ts.length [(ex p).1] (ex p).2).1, wantV x.ts en (sevL x.ts cma ex x.ts.length [(ex p).1] (ex p).2).2)) := by
      show r = _
      rw [Hr.out, uptoV, if_neg (by simp [hs])]
      rfl
    rw [hs] at his
    clear hs Hr
    have R0 := Lib.hid (h.g0 g0)
    clear h
    go_enter Tryz.func91, Tryz.ntmps91
    go_wp2_with fail
    generalize (W.alloc _).alloc _ = W1 at g0 b0 b1 hz0 his R0 ⊢
    rw [hb] at b0 b1 hz0
    refine his.mono ?_
    rintro e w2 ⟨rfl, g2⟩
    have C0 := g2.keep b0 (fun e => e)
    have C1 := g2.keep b1 (fun e => e)
    have R2 := R0.out.g0 g2
    clear b0 b1 his
    obtain ⟨⟨c0, c1, c2, c3⟩, f0, f1, f2, f3⟩ := four_cells C0
    have hl2 : b + 1 < w2.heap.size := (Array.getElem?_eq_some_iff.1 C1).1
    have hl2' : b < w2.heap.size := by omega
    have hcall := Lib.hid (hex w2 p R2 Hd.out)
    have HR2 := Lib.hid R2
    clear R2
    go_wp2_with fail
    refine hcall.out.mono ?_
    rintro e w3 ⟨tk, tt, tn, a1, n1, c1', a2, n2, c2', rfl, rep3, hi3, g3⟩
    generalize (ex p).2 = q at hr1 rep3 hi3 ⊢
    generalize (ex p).1 = T at hr1 rep3 ⊢
    have D0 := Lib.hid (g3.keep C0 (fun e => e))
    have D1 := Lib.hid (g3.keep C1 (fun e => e))
    have R3 := Lib.hid (HR2.out.g0 g3)
    have G3 := Lib.hid ((g0.trans g2).trans g3)
    have Hi3 := Lib.hid hi3
    have Hrep3 := Lib.hid rep3
    have hs3 : Hid (b + 2 ≤ w3.heap.size) := by have := g3.size; have := g2.size; show _ ≤ _; omega
    have hl3 := hs3.out
    clear C0 C1 c0 c1 c2 c3 f0 f1 f2 f3 rep3 hi3 hcall g2 g0
    have Hg3 := Lib.hid g3
    clear g3
    go_wp2_with fail
    generalize hX : ((w3.alloc (stb x q)).alloc (.cells #[.int .i64 tk, .string tt, .int .i64 tn, .slice a1 n1 c1', .slice a2 n2 c2'] 30)).alloc _ = X
    obtain ⟨gX, LX⟩ := one_y (b := b + 2) hX hl3 (fun he => (Hrep3.out he).turn (fun z hz hl => ⟨by have h7 : w2.heap.size ≤ z := hz; omega, rfl⟩)) ⟨rfl, rfl⟩
    clear hX
    have hm := rmore_c d ex hex (b + 2) [T] _ ((R3.out.g0 gX).to Hi3.out.2.2 (by rw [Hi3.out.1]; exact R3.out.hd)) (by rw [Hi3.out.1]; exact Hd.out) (by have := hNb.out; omega) LX
    refine hm.mono ?_
    rintro e w4 ⟨v, rfl, L4, hi4, g4⟩
    generalize (sevL x.ts cma ex x.ts.length [T] q).2 = q' at hr1 L4 hi4 ⊢
    generalize (sevL x.ts cma ex x.ts.length [T] q).1 = l' at hr1 L4 ⊢
    obtain ⟨va, vn, vc, rfl⟩ := L4.sv
    have E0 := g4.keep (gX.keep D0.out (fun e => e)) (by omega)
    have E1 := g4.keep (gX.keep D1.out (fun e => e)) (by omega)
    have G4 : Gr (fun _ => False) W w4 := (G3.out.trans gX).trans' g4 (fun k hk e => by have := hbW.out; omega)
    have R4 : Rz x w4 q' := ((R3.out.g0 gX).gr g4 (fun k hk e => by have := hNb.out; omega)).to hi4.2.2 (by rw [hi4.1, Hi3.out.1]; exact R3.out.hd)
    have gs := set4_gr w4 b (.slice x.a x.ts.length x.c) (.int .i64 (q'.i : Int)) (.int .i64 (q'.d : Int)) (.int .i64 q'.e)
    have S0 := set4_heap E0 (.slice x.a x.ts.length x.c) (.int .i64 (q'.i : Int)) (.int .i64 (q'.d : Int)) (.int .i64 q'.e)
    have S1 := gs.keep E1 (by omega)
    have L5 := Lib.hid (L4.gr gs (fun k hk e => by have hk' : b + 2 ≤ k := hk; omega))
    have G5 := Lib.hid (G4.trans' gs (fun k hk e => by have := hbW.out; omega))
    have R5 := R4.gr gs (fun k hk e => by have := hNb.out; omega)
    have hw := Lib.hid (rwant_c R5 en)
    have hwi := Lib.hid (wantV_i x.ts en q' hi4.2.2)
    have Hi4 := Lib.hid hi4
    obtain ⟨q2, hq2⟩ : ∃ q2, q2 = wantV x.ts en q' := ⟨_, rfl⟩
    rw [← hq2] at hw hwi hr1
    have hl4 : b + 1 < w4.heap.size := (Array.getElem?_eq_some_iff.1 E1).1
    have hl4' : b < w4.heap.size := by omega
    obtain ⟨⟨c0, c1, c2, c3⟩, f0, f1, f2, f3⟩ := four_cells E0
    have HS1 := Lib.hid S1
    clear E0 E1 G4 R4 S0 S1 gs R5 L4 hi4 g4 gX LX hm hq2
    go_wp2_with fail
    obtain ⟨w5, hw5⟩ : ∃ w5, set4 w4 b (.slice x.a x.ts.length x.c) (.int .i64 (q'.i : Int)) (.int .i64 (q'.d : Int)) (.int .i64 q'.e) = w5 := ⟨_, rfl⟩
    rw [hw5] at hw HS1 L5 G5
    rw [show (((w4.setCell ⟨b, 0, none⟩ (.slice x.a x.ts.length x.c)).setCell ⟨b, 1, none⟩ (.int .i64 (q'.i : Int))).setCell ⟨b, 2, none⟩ (.int .i64 (q'.d : Int))).setCell ⟨b, 3, none⟩ (.int .i64 q'.e) = w5 from hw5]
    refine hw.out.mono ?_
    rintro e w6 ⟨rfl, g6⟩
    have F1 := g6.keep HS1.out (fun e => e)
    have L6 := L5.out.gr g6 (fun _ _ e => e)
    have G6 := G5.out.trans g6
    have gs := set4_gr w6 (b + 1) (.slice x.a x.ts.length x.c) (.int .i64 (q2.i : Int)) (.int .i64 (q2.d : Int)) (.int .i64 q2.e)
    have hf := Lib.hid (set4_heap F1 (.slice x.a x.ts.length x.c) (.int .i64 (q2.i : Int)) (.int .i64 (q2.d : Int)) (.int .i64 q2.e))
    have GF : Hid (Gr (fun k => b ≤ k) W (set4 w6 (b + 1) (.slice x.a x.ts.length x.c) (.int .i64 (q2.i : Int)) (.int .i64 (q2.d : Int)) (.int .i64 q2.e))) := (G6.any _).trans' gs (fun k hk e => by show b ≤ k; omega)
    have LF := Lib.hid (L6.gr gs (fun k hk e => by have hk' : b + 2 ≤ k := hk; omega))
    obtain ⟨⟨y0, y1, y2, y3⟩, v0, v1, v2, v3⟩ := four_cells F1
    have hl6 : b + 1 < w6.heap.size := (Array.getElem?_eq_some_iff.1 F1).1
    clear gs F1 L6 G6 c0 c1 c2 c3 f0 f1 f2 f3 hw5 g6 hl4 hl4'
    go_wp2_with fail
    obtain ⟨wF, hwF⟩ : ∃ wF, set4 w6 (b + 1) (.slice x.a x.ts.length x.c) (.int .i64 (q2.i : Int)) (.int .i64 (q2.d : Int)) (.int .i64 q2.e) = wF := ⟨_, rfl⟩
    rw [hwF] at hf GF LF
    rw [show (((w6.setCell ⟨b + 1, 0, none⟩ (.slice x.a x.ts.length x.c)).setCell ⟨b + 1, 1, none⟩ (.int .i64 (q2.i : Int))).setCell ⟨b + 1, 2, none⟩ (.int .i64 (q2.d : Int))).setCell ⟨b + 1, 3, none⟩ (.int .i64 q2.e) = wF from hwF]
    clear hwF y0 y1 y2 y3 v0 v1 v2 v3
    have hf' := hf.out
    obtain ⟨⟨t0, t1, t2, t3⟩, _⟩ := four_cells hf'
    have hrr : r = (l', q2) := hr1.out
    rw [hrr]
    have h9 := hbW.out
    have h10 := hwi.out
    have h11 := Hi4.out
    have h12 := Hi3.out
    refine bodyPost_ret (v := .tuple #[stv x q2, .slice va vn vc]) (by simp [results, Tryz.results91, go_sem, t0, t1, t2, t3]) rfl ⟨_, rfl, ?_, ⟨by show q2.d = p.d; omega, by show p.i ≤ q2.i; omega, h10.2.2.1⟩, ?_⟩
    · rw [h9]
      exact ((LF.out.imp (P' := fun z => b ≤ z) (fun k _ hk => by have hk' : b + 2 ≤ k := hk; omega)).mono (by omega)).st h10.2.1 h10.2.2.2
    · rw [h9]; exact GF.out
end Go.Proofs.YtggkjkkbkpnkiaaGreatDoor
