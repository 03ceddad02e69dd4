/-
  Carried over from another seat of ours (GA).
  Carried over from another seat of ours (GB).
-/
import Derived.Test.YtjedbfbolifjjaaGreatDoorJ
set_option linter.unusedVariables false
set_option linter.unusedSimpArgs false
namespace Go.Proofs.YtjedbfbolifjjaaGreatDoor
open Go.RowKit Go.Maps
/-- A tree: its kind, text, number, bytes, parts. -/
structure Tr where
 mk :: (k : Int) (s : ByteArray) (n : Int) (b : List Int) (l : List Tr)
abbrev trv (k : Int) (s : ByteArray) (n : Int) (bv lv : Value) : Value := .agg #[.int .i64 k, .string s, .int .i64 n, bv, lv]

def cellsOf : Value → List Value
 | .agg a => a.toList
 | _ => []

/-- A row of bytes that only blocks of A hold. -/
def RowB (A : Nat → Prop) (W : World) (bs : List Int) (v : Value) : Prop :=
 (bs = [] ∧ ∃ a c, v = .slice a 0 c) ∨ ∃ g cap cur, v = .slice (some ⟨g, 0, none⟩) bs.length cap ∧ A g ∧ W.heap[g]? = some (.cells cur 5 (0, 0)) ∧ bs.length ≤ cap ∧ cur.toList.take bs.length = bs.map (Value.int .u8)
/-- A row of trees. -/
def RowT (A : Nat → Prop) (W : World) (vs : List Value) (n : Nat) (v : Value) : Prop :=
 (n = 0 ∧ ∃ a c, v = .slice a 0 c) ∨ ∃ g cap cur, v = .slice (some ⟨g, 0, none⟩) n cap ∧ A g ∧ W.heap[g]? = some (.cells cur 25 (0, 0)) ∧ n ≤ cap ∧ cur.toList.take (n * 5) = vs.flatMap cellsOf

/-- The value v is the tree, in memory that only blocks of A hold. -/
def Rep (A : Nat → Prop) (W : World) : Tr → Value → Prop :=
 Tr.rec (motive_1 := fun _ => Value → Prop) (motive_2 := fun _ => List Value → Prop)
  (fun k s n b l ih v => ∃ bv lv vs, v = trv k s n bv lv ∧ RowB A W b bv ∧ RowT A W vs l.length lv ∧ ih vs)
  (fun vs => vs = []) (fun _ _ h1 h2 vs => ∃ v r, vs = v :: r ∧ h1 v ∧ h2 r)
def Reps (A : Nat → Prop) (W : World) : List Tr → List Value → Prop :=
 Tr.rec_1 (motive_1 := fun _ => Value → Prop) (motive_2 := fun _ => List Value → Prop)
  (fun k s n b l ih v => ∃ bv lv vs, v = trv k s n bv lv ∧ RowB A W b bv ∧ RowT A W vs l.length lv ∧ ih vs)
  (fun vs => vs = []) (fun _ _ h1 h2 vs => ∃ v r, vs = v :: r ∧ h1 v ∧ h2 r)
/-- What a part's memory asks of another world. -/
def Turn (A A' : Nat → Prop) (W W' : World) : Prop := ∀ k, A k → k < W.heap.size → A' k ∧ W'.heap[k]? = W.heap[k]?
theorem RowB.turn {A A' : Nat → Prop} {W W' : World} (h : Turn A A' W W') {bs : List Int} {v : Value} (k : RowB A W bs v) : RowB A' W' bs v := by
 rcases k with k | ⟨g, cap, cur, rfl, hg, hc, h1, h2⟩
 · exact .inl k
 · obtain ⟨h3, h4⟩ := h g hg (Array.getElem?_eq_some_iff.1 hc).1
   exact .inr ⟨g, cap, cur, rfl, h3, h4.trans hc, h1, h2⟩
theorem RowB.sv {A : Nat → Prop} {W : World} {bs : List Int} {v : Value} (k : RowB A W bs v) : ∃ a c, v = .slice a bs.length c := by
 rcases k with ⟨rfl, a, c, rfl⟩ | ⟨g, cap, cur, rfl, _⟩
 · exact ⟨_, _, rfl⟩
 · exact ⟨_, _, rfl⟩
theorem RowT.turn {A A' : Nat → Prop} {W W' : World} (h : Turn A A' W W') {vs : List Value} {n : Nat} {v : Value} (k : RowT A W vs n v) : RowT A' W' vs n v := by
 rcases k with k | ⟨g, cap, cur, rfl, hg, hc, h1, h2⟩
 · exact .inl k
 · obtain ⟨h3, h4⟩ := h g hg (Array.getElem?_eq_some_iff.1 hc).1
   exact .inr ⟨g, cap, cur, rfl, h3, h4.trans hc, h1, h2⟩
theorem Rep.turn {A A' : Nat → Prop} {W W' : World} (h : Turn A A' W W') {T : Tr} {v : Value} (k : Rep A W T v) : Rep A' W' T v :=
 Tr.rec (motive_1 := fun T => ∀ v, Rep A W T v → Rep A' W' T v) (motive_2 := fun l => ∀ vs, Reps A W l vs → Reps A' W' l vs)
  (fun t s n bs l ih v k => by
    obtain ⟨bv, lv, vs, rfl, k1, k2, k3⟩ := k
    exact ⟨bv, lv, vs, rfl, k1.turn h, k2.turn h, ih vs k3⟩)
  (fun _ k => k)
  (fun t l h1 h2 vs k => by
    obtain ⟨v, r, rfl, k1, k2⟩ := k
    exact ⟨v, r, rfl, h1 v k1, h2 r k2⟩) T v k
theorem Reps.turn {A A' : Nat → Prop} {W W' : World} (h : Turn A A' W W') : ∀ {l : List Tr} {vs : List Value}, Reps A W l vs → Reps A' W' l vs
 | [], vs, k => k
 | t :: l, vs, k => by
  obtain ⟨v, r, rfl, k1, k2⟩ := k
  exact ⟨v, r, rfl, Rep.turn h k1, Reps.turn h k2⟩
theorem Reps.snoc {A : Nat → Prop} {W : World} {T : Tr} {v : Value} : ∀ {l : List Tr} {vs : List Value}, Reps A W l vs → Rep A W T v → Reps A W (l ++ [T]) (vs ++ [v])
 | [], vs, k, h => by cases k; exact ⟨v, [], rfl, h, rfl⟩
 | t :: l, vs, k, h => by
  obtain ⟨v', r, rfl, k1, k2⟩ := k
  exact ⟨v', r ++ [v], rfl, k1, Reps.snoc k2 h⟩
theorem Reps.app {A : Nat → Prop} {W : World} {m : List Tr} {us : List Value} (hm : Reps A W m us) : ∀ {l : List Tr} {vs : List Value}, Reps A W l vs → Reps A W (l ++ m) (vs ++ us)
 | [], vs, k => by cases k; exact hm
 | t :: l, vs, k => by
  obtain ⟨v', r, rfl, k1, k2⟩ := k
  exact ⟨v', r ++ us, rfl, k1, Reps.app hm k2⟩
theorem Reps.len {A : Nat → Prop} {W : World} : ∀ {l : List Tr} {vs : List Value}, Reps A W l vs → vs.length = l.length
 | [], vs, k => by cases k; rfl
 | t :: l, vs, k => by
  obtain ⟨v', r, rfl, k1, k2⟩ := k
  simp [Reps.len k2]
theorem Rep.agg {A : Nat → Prop} {W : World} {T : Tr} {v : Value} (h : Rep A W T v) : ∃ k s n a1 n1 c1 a2 n2 c2, v = trv k s n (.slice a1 n1 c1) (.slice a2 n2 c2) := by
 cases T with
 | mk k s n bs l =>
  obtain ⟨bv, lv, vs, rfl, k1, k2, k3⟩ := h
  rcases k1 with ⟨_, a, c, rfl⟩ | ⟨g, cap, cur, rfl, _⟩ <;> rcases k2 with ⟨_, a', c', rfl⟩ | ⟨g', cap', cur', rfl, _⟩
  all_goals exact ⟨_, _, _, _, _, _, _, _, _, rfl⟩
theorem Reps.cells {A : Nat → Prop} {W : World} : ∀ {l : List Tr} {vs : List Value}, Reps A W l vs → (vs.flatMap cellsOf).length = l.length * 5
 | [], vs, k => by cases k; rfl
 | t :: l, vs, k => by
  obtain ⟨v', r, rfl, k1, k2⟩ := k
  obtain ⟨_, _, _, _, _, _, _, _, _, rfl⟩ := Rep.agg k1
  rw [List.flatMap_cons, List.length_append, Reps.cells k2]
  simp [cellsOf]
  omega
theorem rowT_own {W : World} {N n : Nat} {vs : List Value} {v : Value} (h : W.ownsRow N 25 5 v n (vs.flatMap cellsOf)) : RowT (fun k => N ≤ k) W vs n v := by
 rcases h.2 with ⟨rfl, h0⟩ | ⟨g, cap, cur, rfl, hg, h2, h3, _, _, h6⟩
 · exact .inl ⟨h0, _, _, rfl⟩
 · exact .inr ⟨g, cap, cur, rfl, hg, h2, h3, h6⟩
theorem rowB_own {W : World} {N : Nat} {bs : List Int} {v : Value} (h : W.ownsRow N 5 1 v bs.length (bs.map (Value.int .u8))) : RowB (fun k => N ≤ k) W bs v := by
 rcases h.2 with ⟨rfl, h0⟩ | ⟨g, cap, cur, rfl, hg, h2, h3, _, _, h6⟩
 · exact .inl ⟨List.eq_nil_of_length_eq_zero h0, _, _, rfl⟩
 · exact .inr ⟨g, cap, cur, rfl, hg, h2, h3, by simpa using h6⟩
theorem info25 : (Tryz.prog.info? 25).map (fun i => (i.zero, i.size, i.bytes)) = some (some (trv 0 e0 0 nl nl), 5, 80) := by kernel_rfl

/-! ### Tokens -/
/-- A token as it was handed in: its kind, text, number, bytes, place. -/
structure Tn where
 k : Int
 s : ByteArray
 n : Int
 b : List Int
 o : Int
abbrev tn0 : Tn := ⟨0, e0, 0, [], 0⟩
abbrev tnc (t : Tn) (v : Value) : List Value := [.int .i64 t.k, .string t.s, .int .i64 t.n, v, .int .i64 t.o]
def tncs : List Tn → List Value → List Value
 | t :: ts, v :: vs => tnc t v ++ tncs ts vs
 | _, _ => []
/-- The rows of the tokens' bytes. -/
def BsK (A : Nat → Prop) (W : World) : List Tn → List Value → Prop
 | [], [] => True
 | t :: ts, v :: vs => RowB A W t.b v ∧ BsK A W ts vs
 | _, _ => False
def RowK (A : Nat → Prop) (W : World) (ts : List Tn) (vs : List Value) (a : Option Addr) (c : Nat) : Prop :=
 (ts = [] ∧ vs = []) ∨ ∃ g cur, a = some ⟨g, 0, none⟩ ∧ A g ∧ W.heap[g]? = some (.cells cur 81 (0, 0)) ∧ cur.toList.take (ts.length * 5) = tncs ts vs
theorem BsK.turn {A A' : Nat → Prop} {W W' : World} (h : Turn A A' W W') : ∀ {ts : List Tn} {vs : List Value}, BsK A W ts vs → BsK A' W' ts vs
 | [], [], _ => trivial
 | t :: ts, v :: vs, k => ⟨k.1.turn h, BsK.turn h k.2⟩
 | [], _ :: _, k => k.elim
 | _ :: _, [], k => k.elim
theorem RowK.turn {A A' : Nat → Prop} {W W' : World} (h : Turn A A' W W') {ts : List Tn} {vs : List Value} {a : Option Addr} {c : Nat} (k : RowK A W ts vs a c) : RowK A' W' ts vs a c := by
 rcases k with k | ⟨g, cur, rfl, hg, hc, h2⟩
 · exact .inl k
 · obtain ⟨h3, h4⟩ := h g hg (Array.getElem?_eq_some_iff.1 hc).1
   exact .inr ⟨g, cur, rfl, h3, h4.trans hc, h2⟩
theorem tncs_at {A : Nat → Prop} {W : World} : ∀ {ts : List Tn} {vs : List Value}, BsK A W ts vs → ∀ (k : Nat) (t : Tn), ts[k]? = some t → ∃ v, vs[k]? = some v ∧ RowB A W t.b v ∧ ∀ j u, (tnc t v)[j]? = some u → (tncs ts vs)[k * 5 + j]? = some u
 | [], [], _, k, t, h => by simp at h
 | a :: ts, b :: vs, hb, 0, t, h => by
  simp at h; subst h
  refine ⟨b, rfl, hb.1, fun j u hj => ?_⟩
  rw [tncs, Nat.zero_mul, Nat.zero_add, List.getElem?_append_left]
  · exact hj
  · exact (List.getElem?_eq_some_iff.1 hj).1
 | a :: ts, b :: vs, hb, k + 1, t, h => by
  obtain ⟨v, h0, h1, h2⟩ := tncs_at hb.2 k t (by simpa using h)
  refine ⟨v, by simpa using h0, h1, fun j u hj => ?_⟩
  rw [tncs, List.getElem?_append_right (by simp; omega)]
  rw [← h2 j u hj]
  congr 1
  simp
  omega
 | [], _ :: _, h, _, _, _ => h.elim
 | _ :: _, [], h, _, _, _ => h.elim

/-! ### The parser -/
/-- Where it stands, how deep, the error. -/
structure Ps where
 i : Nat
 d : Nat
 e : Int
/-- What stays as it is: the tokens, their row. -/
structure Kx where
 N : Nat
 ts : List Tn
 vs : List Value
 a : Option Addr
 c : Nat
/-- How many tokens the parser still has. -/
def Kx.cut (x : Kx) (p : Ps) : Nat := if p.e = 0 then x.ts.length else p.i
/-- The levels of signs. -/
abbrev lw0 : ByteArray := ⟨#[61, 61, 32, 47, 61, 32, 60, 32, 62, 32, 61, 60, 32, 62, 61]⟩
abbrev lw1 : ByteArray := ⟨#[43, 32, 45]⟩
abbrev lw2 : ByteArray := ⟨#[42, 32, 47, 32, 114, 101, 109]⟩
def asL : List Int := (List.range 256).map fun i => if i = 9 ∨ i = 10 ∨ i = 11 ∨ i = 12 ∨ i = 13 ∨ i = 32 then 1 else 0
def Lv (W : World) : Prop := (∃ t f, W.heap[4]? = some (.cells #[.string lw0, .string lw1, .string lw2] t f)) ∧ ∃ t f, W.heap[5]? = some (.cells (asL.map (Value.int .u8)).toArray t f)
theorem Lv.gr {S : Nat → Prop} {W W' : World} (h : Lv W) (g : Gr S W W') (h3 : ¬ S 4) (h4 : ¬ S 5) : Lv W' := by
 obtain ⟨⟨t, f, k3⟩, ⟨t', f', k4⟩⟩ := h
 exact ⟨⟨t, f, g.keep k3 h3⟩, ⟨t', f', g.keep k4 h4⟩⟩
/-- The parser in memory. -/
structure Pz (x : Kx) (W : World) (pb : Nat) (p : Ps) : Prop where
 blk : W.heap[pb]? = some (.cells #[.slice x.a (x.cut p) x.c, .int .i64 (p.i : Int), .int .i64 (p.d : Int), .int .i64 p.e] 85 (0, 0))
 row : RowK (fun k => k < x.N) W x.ts x.vs x.a x.c
 bs : BsK (fun k => k < x.N) W x.ts x.vs
 lv : Lv W
 n4 : 5 < x.N
 hN : x.N ≤ pb
 hi : p.i ≤ x.ts.length
 hd : p.d ≤ 40
 hc : x.ts.length ≤ x.c
 hm : x.ts.length ≤ 100000
 hS : ∀ t ∈ x.ts, t.s.size ≤ 140737488351232
 hB : ∀ t ∈ x.ts, t.b.length ≤ 200000
variable {x : Kx} {W W' : World} {pb : Nat} {p p' : Ps}
theorem Pz.lt (h : Pz x W pb p) : pb < W.heap.size := (Array.getElem?_eq_some_iff.1 h.blk).1
theorem Pz.upd {S : Nat → Prop} (h : Pz x W pb p) (g : Gr S W W') (hs : ∀ k, k < x.N → ¬ S k) (hb : W'.heap[pb]? = some (.cells #[.slice x.a (x.cut p') x.c, .int .i64 (p'.i : Int), .int .i64 (p'.d : Int), .int .i64 p'.e] 85 (0, 0)))
 (hi : p'.i ≤ x.ts.length) (hd : p'.d ≤ 40) : Pz x W' pb p' := by
 have hn := h.n4
 have ht : Turn (fun k => k < x.N) (fun k => k < x.N) W W' := fun k hk hl => ⟨hk, g.block k hl (hs k hk)⟩
 exact ⟨hb, h.row.turn ht, h.bs.turn ht, h.lv.gr g (hs 4 (by omega)) (hs 5 hn), hn, h.hN, hi, hd, h.hc, h.hm, h.hS, h.hB⟩
theorem Pz.gr {S : Nat → Prop} (h : Pz x W pb p) (g : Gr S W W') (hs : ∀ k, k ≤ pb → ¬ S k) : Pz x W' pb p :=
 h.upd g (fun k hk => hs k (by have := h.hN; omega)) ((g.block pb h.lt (hs pb (Nat.le_refl _))).trans h.blk) h.hi h.hd
theorem Pz.g0 (h : Pz x W pb p) (g : Gr (fun _ => False) W W') : Pz x W' pb p := h.gr g (fun _ _ e => e)
theorem Pz.facts (h : Pz x W pb p) :
 (W.cell? ⟨pb, 0, none⟩ = some (.slice x.a (x.cut p) x.c) ∧ W.cell? ⟨pb, 1, none⟩ = some (.int .i64 (p.i : Int)) ∧ W.cell? ⟨pb, 2, none⟩ = some (.int .i64 (p.d : Int)) ∧ W.cell? ⟨pb, 3, none⟩ = some (.int .i64 p.e)) ∧
 (W.frozen? ⟨pb, 0, none⟩ = false ∧ W.frozen? ⟨pb, 1, none⟩ = false ∧ W.frozen? ⟨pb, 2, none⟩ = false ∧ W.frozen? ⟨pb, 3, none⟩ = false) := by
 have := h.blk
 simp [World.cell?, World.frozen?, this]
/-- The token that comes next; none at the end. -/
def pkT (ts : List Tn) (p : Ps) : Tn := if p.e = 0 then ts[p.i]?.getD tn0 else tn0
def pkB (vs : List Value) (p : Ps) : Value := if p.e = 0 then vs[p.i]?.getD nl else nl
/-- A token's cells at the place where the parser stands. -/
theorem Pz.at (h : Pz x W pb p) (hl : p.i < x.cut p) : p.e = 0 ∧ p.i < x.ts.length ∧ x.ts[p.i]? = some (pkT x.ts p) ∧ RowB (fun k => k < x.N) W (pkT x.ts p).b (pkB x.vs p) ∧ ∃ g, x.a = some ⟨g, 0, none⟩ ∧ g < x.N ∧
 ∀ j u, (tnc (pkT x.ts p) (pkB x.vs p))[j]? = some u → W.cell? ⟨g, p.i * 5 + j, none⟩ = some u := by
 have he : p.e = 0 := by
  by_cases e : p.e = 0
  · exact e
  · rw [Kx.cut, if_neg e] at hl; omega
 rw [Kx.cut, if_pos he] at hl
 have ht : x.ts[p.i]? = some (pkT x.ts p) := by
  rw [pkT, if_pos he, List.getElem?_eq_getElem hl]; rfl
 obtain ⟨v, hv, hb, hc⟩ := tncs_at h.bs p.i _ ht
 have hpv : pkB x.vs p = v := by rw [pkB, if_pos he, hv]; rfl
 rw [hpv]
 refine ⟨he, hl, ht, hb, ?_⟩
 rcases h.row with ⟨h0, _⟩ | ⟨g, cur, hg, hgN, hgc, h6⟩
 · rw [h0] at hl; simp at hl
 ·
  refine ⟨g, hg, hgN, fun j u hu => ?_⟩
  have e := hc j u hu
  rw [← h6] at e
  have hlt : p.i * 5 + j < x.ts.length * 5 := by
   rcases Nat.lt_or_ge (p.i * 5 + j) (x.ts.length * 5) with h | h
   · exact h
   · rw [List.getElem?_eq_none (by simp; omega)] at e; cases e
  rw [List.getElem?_take_of_lt hlt] at e
  simp only [World.cell?, hgc]
  simpa using e
theorem pkT_end (h : ¬ p.i < x.cut p) : pkT x.ts p = tn0 := by
 by_cases e : p.e = 0
 · rw [Kx.cut, if_pos e] at h
   rw [pkT, if_pos e, List.getElem?_eq_none (by omega)]; rfl
 · rw [pkT, if_neg e]
theorem BsK.len {A : Nat → Prop} {W : World} : ∀ {ts : List Tn} {vs : List Value}, BsK A W ts vs → vs.length = ts.length
 | [], [], _ => rfl
 | t :: ts, v :: vs, k => by simp [BsK.len k.2]
 | [], _ :: _, k => k.elim
 | _ :: _, [], k => k.elim
theorem pkB_end (h : ¬ p.i < x.cut p) (hb : BsK (fun k => k < x.N) W x.ts x.vs) : pkB x.vs p = nl := by
 by_cases e : p.e = 0
 · rw [Kx.cut, if_pos e] at h
   have := hb.len
   rw [pkB, if_pos e, List.getElem?_eq_none (by omega)]; rfl
 · rw [pkB, if_neg e]
end Go.Proofs.YtjedbfbolifjjaaGreatDoor

namespace Go.Proofs.YtjedbfbolifjjaaGreatDoor
open Go.RowKit Go.Maps
variable {x : Kx} {W W' : World} {pb : Nat} {p p' : Ps}
/-- Five cells of a block are written. -/
abbrev set5 (w : World) (b : Nat) (y0 y1 y2 y3 y4 : Value) : World := ((((w.setCell ⟨b, 0, none⟩ y0).setCell ⟨b, 1, none⟩ y1).setCell ⟨b, 2, none⟩ y2).setCell ⟨b, 3, none⟩ y3).setCell ⟨b, 4, none⟩ y4
theorem set5_heap {w : World} {b : Nat} {x0 x1 x2 x3 x4 : Value} {t : TypeId} (h : w.heap[b]? = some (.cells #[x0, x1, x2, x3, x4] t (0, 0))) (y0 y1 y2 y3 y4 : Value) :
 (set5 w b y0 y1 y2 y3 y4).heap[b]? = some (.cells #[y0, y1, y2, y3, y4] t (0, 0)) := by
 have h0 : (w.setCell ⟨b, 0, none⟩ y0).heap[b]? = some (.cells #[y0, x1, x2, x3, x4] t (0, 0)) := heap_setCell_same w b 0 _ t _ h
 have h1 : ((w.setCell ⟨b, 0, none⟩ y0).setCell ⟨b, 1, none⟩ y1).heap[b]? = some (.cells #[y0, y1, x2, x3, x4] t (0, 0)) := heap_setCell_same (w.setCell ⟨b, 0, none⟩ y0) b 1 _ t _ h0
 have h2 : (((w.setCell ⟨b, 0, none⟩ y0).setCell ⟨b, 1, none⟩ y1).setCell ⟨b, 2, none⟩ y2).heap[b]? = some (.cells #[y0, y1, y2, x3, x4] t (0, 0)) := heap_setCell_same ((w.setCell ⟨b, 0, none⟩ y0).setCell ⟨b, 1, none⟩ y1) b 2 _ t _ h1
 have h3 : ((((w.setCell ⟨b, 0, none⟩ y0).setCell ⟨b, 1, none⟩ y1).setCell ⟨b, 2, none⟩ y2).setCell ⟨b, 3, none⟩ y3).heap[b]? = some (.cells #[y0, y1, y2, y3, x4] t (0, 0)) := heap_setCell_same (((w.setCell ⟨b, 0, none⟩ y0).setCell ⟨b, 1, none⟩ y1).setCell ⟨b, 2, none⟩ y2) b 3 _ t _ h2
 have h4 : (((((w.setCell ⟨b, 0, none⟩ y0).setCell ⟨b, 1, none⟩ y1).setCell ⟨b, 2, none⟩ y2).setCell ⟨b, 3, none⟩ y3).setCell ⟨b, 4, none⟩ y4).heap[b]? = some (.cells #[y0, y1, y2, y3, y4] t (0, 0)) := heap_setCell_same ((((w.setCell ⟨b, 0, none⟩ y0).setCell ⟨b, 1, none⟩ y1).setCell ⟨b, 2, none⟩ y2).setCell ⟨b, 3, none⟩ y3) b 4 _ t _ h3
 exact h4
theorem set5_gr (w : World) (b : Nat) (y0 y1 y2 y3 y4 : Value) : Gr (fun k => k = b) w (set5 w b y0 y1 y2 y3 y4) :=
 ((((Gr.set (S := fun k => k = b) w ⟨b, 0, none⟩ y0 rfl).trans (Gr.set (S := fun k => k = b) _ ⟨b, 1, none⟩ y1 rfl)).trans (Gr.set (S := fun k => k = b) _ ⟨b, 2, none⟩ y2 rfl)).trans (Gr.set (S := fun k => k = b) _ ⟨b, 3, none⟩ y3 rfl)).trans (Gr.set (S := fun k => k = b) _ ⟨b, 4, none⟩ y4 rfl)
theorem five_cells {w : World} {b : Nat} {x0 x1 x2 x3 x4 : Value} {t : TypeId} (h : w.heap[b]? = some (.cells #[x0, x1, x2, x3, x4] t (0, 0))) :
 (w.cell? ⟨b, 0, none⟩ = some x0 ∧ w.cell? ⟨b, 1, none⟩ = some x1 ∧ w.cell? ⟨b, 2, none⟩ = some x2 ∧ w.cell? ⟨b, 3, none⟩ = some x3 ∧ w.cell? ⟨b, 4, none⟩ = some x4) ∧
 (w.frozen? ⟨b, 0, none⟩ = false ∧ w.frozen? ⟨b, 1, none⟩ = false ∧ w.frozen? ⟨b, 2, none⟩ = false ∧ w.frozen? ⟨b, 3, none⟩ = false ∧ w.frozen? ⟨b, 4, none⟩ = false) := by
 simp [World.cell?, World.frozen?, h]

/-- Is this sign or word the next token? -/
def isV (ts : List Tn) (p : Ps) (s : ByteArray) : Bool := ((pkT ts p).k == 5 || (pkT ts p).k == 6) && ((pkT ts p).s.toList == s.toList)
def Ps.next (p : Ps) : Ps := { p with i := p.i + 1 }
def failV (c : Int) (p : Ps) : Ps := if p.e = 0 then { p with e := c } else p
def wantV (ts : List Tn) (s : ByteArray) (p : Ps) : Ps := if isV ts p s = true then p.next else failV 160 p
def nameV (ts : List Tn) (k : Int) (p : Ps) : ByteArray × Ps := if (pkT ts p).k = k then ((pkT ts p).s, p.next) else (e0, failV 160 p)
theorem lt_of_kind (h : (pkT x.ts p).k ≠ 0) : p.i < x.cut p := by
 by_cases hl : p.i < x.cut p
 · exact hl
 · rw [pkT_end hl] at h; exact absurd rfl h
theorem isV_lt {s : ByteArray} (h : isV x.ts p s = true) : p.i < x.cut p ∧ p.e = 0 ∧ p.i < x.ts.length := by
 have hk : (pkT x.ts p).k ≠ 0 := by
  intro e
  simp [isV, e] at h
 have hl := lt_of_kind hk
 have he : p.e = 0 := by
  by_cases e : p.e = 0
  · exact e
  · rw [Kx.cut, if_neg e] at hl; omega
 exact ⟨hl, he, by rw [Kx.cut, if_pos he] at hl; exact hl⟩
theorem cut_next (he : p.e = 0) : x.cut p.next = x.cut p := by simp [Kx.cut, Ps.next, he]

theorem Pz.step (h : Pz x W pb p) (he : p.e = 0) (hl : p.i < x.ts.length) :
 Pz x (W.setCell ⟨pb, 1, none⟩ (.int .i64 ((p.i : Int) + 1))) pb p.next ∧ Gr (fun k => k = pb) W (W.setCell ⟨pb, 1, none⟩ (.int .i64 ((p.i : Int) + 1))) := by
 have g2 : Gr (fun k => k = pb) W (W.setCell ⟨pb, 1, none⟩ (.int .i64 ((p.i : Int) + 1))) := Gr.set _ _ _ rfl
 refine ⟨h.upd g2 (fun k hk e => by have := h.hN; omega) ?_ (by show p.i + 1 ≤ _; omega) h.hd, g2⟩
 rw [cut_next he]
 exact heap_setCell_same W pb 1 _ 85 _ h.blk
abbrev tnv (t : Tn) (v : Value) : Value := .agg #[.int .i64 t.k, .string t.s, .int .i64 t.n, v, .int .i64 t.o]
set_option maxRecDepth 20000 in
set_option maxHeartbeats 1600000 in
theorem gpeek_c (h : Pz x W pb p) : Calls Tryz.prog 121 #[pt pb] W fun e w' => e = .returned (tnv (pkT x.ts p) (pkB x.vs p)) ∧ Gr (fun _ => False) W w' := by
 obtain ⟨⟨c0, c1, c2, c3⟩, f0, f1, f2, f3⟩ := h.facts
 have hb := h.lt
 have hm := h.hm
 by_cases hl : p.i < x.cut p
 ·
  obtain ⟨he, hlt, ht, hrow, g, hg, hgN, hc⟩ := h.at hl
  have k0 : W.cell? ⟨g, p.i * 5, none⟩ = _ := hc 0 _ rfl
  have k1 := hc 1 _ rfl
  have k2 := hc 2 _ rfl
  have k3 := hc 3 _ rfl
  have k4 := hc 4 _ rfl
  rw [hg] at c0
  obtain ⟨va, vc, hv⟩ := hrow.sv
  generalize pkT x.ts p = t at k0 k1 k2 k3 k4 hv ⊢
  rw [hv] at k3 ⊢
  generalize t.b.length = vn at k3 ⊢
  generalize x.cut p = n at c0 hl
  generalize x.c = cc at c0
  generalize p.i = i at c1 hl k0 k1 k2 k3 k4 hlt
  have h1 : (i : Int) < (n : Int) := by omega
  have hgl : g < W.heap.size := World.block_lt_of_cell? _ _ k0
  clear ht hrow hc h hv
  go_enter Tryz.func121, Tryz.ntmps121
  go_wp2_with fail
  go_quiet (fail)
  go_wp2_with fail
  go_region
  go_wp2_with fail
  generalize hW1 : World.drewN _ (nq + 1) = W1
  have hb1 : W1.heap[W.heap.size]? = some (.cells #[.int .i64 0, .string e0, .int .i64 0, nl, .int .i64 0] 81 (0, 0)) := hW1 ▸ heap_alloc_new W _
  have g1 : Gr (fun _ => False) W W1 := hW1 ▸ (Gr.alloc W _ _).trans (Gr.drewN _ _ _)
  clear hW1
  have hf := set5_heap hb1 (.int .i64 t.k) (.string t.s) (.int .i64 t.n) (.slice va vn vc) (.int .i64 t.o)
  have gf := g1.trans' (set5_gr W1 W.heap.size (.int .i64 t.k) (.string t.s) (.int .i64 t.n) (.slice va vn vc) (.int .i64 t.o)) (fun k hk e => absurd e (by omega))
  obtain ⟨⟨m0, m1, m2, m3, m4⟩, _⟩ := five_cells hf
  refine bodyPost_ret (v := tnv t (.slice va vn vc)) (by simp [results, Tryz.results121, go_sem, m0, m1, m2, m3, m4]) rfl ⟨rfl, gf⟩
 ·
  rw [pkT_end hl, pkB_end hl h.bs]
  generalize x.cut p = n at c0 hl
  generalize x.c = cc at c0
  generalize x.a = aa at c0
  generalize p.i = i at c1 hl
  have h1 : decide ((i : Int) < (n : Int)) = false := by simp; omega
  clear h
  go_enter Tryz.func121, Tryz.ntmps121
  go_wp2_with fail
  go_quiet (fail)
  go_wp2_with fail
  generalize hW1 : World.drewN _ nq = W1
  have hb1 : W1.heap[W.heap.size]? = some (.cells #[.int .i64 0, .string e0, .int .i64 0, nl, .int .i64 0] 81 (0, 0)) := hW1 ▸ heap_alloc_new W _
  have g1 : Gr (fun _ => False) W W1 := hW1 ▸ (Gr.alloc W _ _).trans (Gr.drewN _ _ _)
  clear hW1
  have hf := set5_heap hb1 (.int .i64 0) (.string e0) (.int .i64 0) nl (.int .i64 0)
  have gf := g1.trans' (set5_gr W1 W.heap.size (.int .i64 0) (.string e0) (.int .i64 0) nl (.int .i64 0)) (fun k hk e => absurd e (by omega))
  obtain ⟨⟨m0, m1, m2, m3, m4⟩, _⟩ := five_cells hf
  refine bodyPost_ret (v := tnv tn0 nl) (by simp [results, Tryz.results121, go_sem, m0, m1, m2, m3, m4]) rfl ⟨rfl, gf⟩
set_option maxRecDepth 20000 in
set_option maxHeartbeats 1600000 in
theorem is_c (h : Pz x W pb p) (s : ByteArray) : Calls Tryz.prog 124 #[pt pb, .string s] W fun e w' => e = .returned (.bool (isV x.ts p s)) ∧ Gr (fun _ => False) W w' := by
 have hk := gpeek_c h
 obtain ⟨r, hr⟩ : ∃ r, isV x.ts p s = r := ⟨_, rfl⟩
 rw [hr]
 unfold isV at hr
 have Hv : ∃ va vn vc, pkB x.vs p = .slice va vn vc := by
  by_cases hl : p.i < x.cut p
  · obtain ⟨_, _, _, hrow, _⟩ := h.at hl
    obtain ⟨a, c, e⟩ := hrow.sv
    exact ⟨_, _, _, e⟩
  · exact ⟨_, _, _, pkB_end hl h.bs⟩
 obtain ⟨va, vn, vc, hv⟩ := Hv
 rw [hv] at hk
 generalize pkT x.ts p = t at hk hr
 by_cases h5 : t.k = 5
 ·
  have q5 : (t.k == 5) = true := by simpa using h5
  rw [q5, Bool.true_or, Bool.true_and] at hr
  clear h5
  go_enter Tryz.func124, Tryz.ntmps124
  go_wp2_with fail
  refine hk.mono ?_
  rintro e w1 ⟨rfl, g1⟩
  go_wp2_with fail
  go_ret
  exact ⟨rfl, g1.trans (Gr.alloc _ _ _)⟩
 have q5 : (t.k == 5) = false := by simpa using h5
 by_cases h6 : t.k = 6
 ·
  have q6 : (t.k == 6) = true := by simpa using h6
  rw [q5, q6, Bool.false_or, Bool.true_and] at hr
  clear h5 h6
  go_enter Tryz.func124, Tryz.ntmps124
  go_wp2_with fail
  refine hk.mono ?_
  rintro e w1 ⟨rfl, g1⟩
  go_wp2_with fail
  go_ret
  exact ⟨rfl, g1.trans (Gr.alloc _ _ _)⟩
 ·
  have q6 : (t.k == 6) = false := by simpa using h6
  rw [q5, q6, Bool.false_or, Bool.false_and] at hr
  subst hr
  clear h5 h6
  go_enter Tryz.func124, Tryz.ntmps124
  go_wp2_with fail
  refine hk.mono ?_
  rintro e w1 ⟨rfl, g1⟩
  go_wp2_with fail
  go_ret
  exact ⟨rfl, g1.trans (Gr.alloc _ _ _)⟩

set_option maxRecDepth 20000 in
set_option maxHeartbeats 1600000 in
theorem take_c (h : Pz x W pb p) (s : ByteArray) : Calls Tryz.prog 123 #[pt pb, .string s] W fun e w' => e = .returned (.bool (isV x.ts p s)) ∧ Pz x w' pb (if isV x.ts p s = true then p.next else p) ∧ Gr (fun k => k = pb) W w' := by
 have hk := is_c h s
 have hlt := @isV_lt x p s
 have hm := h.hm
 have hi2 : (p.i : Int) ≤ 100000 := by have := h.hi; omega
 clear hm
 by_cases hs : isV x.ts p s = true
 ·
  obtain ⟨hl, he, hl2⟩ := hlt hs
  rw [if_pos hs]
  rw [hs] at hk ⊢
  clear hs hlt
  go_enter Tryz.func123, Tryz.ntmps123
  go_wp2_with fail
  refine hk.mono ?_
  rintro e w1 ⟨rfl, g1⟩
  have h1 := h.g0 g1
  obtain ⟨⟨c0, c1, c2, c3⟩, f0, f1, f2, f3⟩ := h1.facts
  go_wp2_with fail
  go_ret
  obtain ⟨h2, g2⟩ := h1.step he hl2
  exact ⟨rfl, h2, (g1.any _).trans g2⟩
 ·
  have hs' : isV x.ts p s = false := by simpa using hs
  rw [if_neg hs]
  rw [hs'] at hk ⊢
  clear hs hlt
  go_enter Tryz.func123, Tryz.ntmps123
  go_wp2_with fail
  refine hk.mono ?_
  rintro e w1 ⟨rfl, g1⟩
  go_wp2_with fail
  go_ret
  exact ⟨rfl, h.g0 g1, g1.any _⟩

abbrev tr0v : Value := trv 0 e0 0 nl nl
set_option maxRecDepth 20000 in
set_option maxHeartbeats 1600000 in
theorem fail_c (h : Pz x W pb p) (c : Int) (hc : c ≠ 0) : Calls Tryz.prog 122 #[pt pb, .int .i64 c] W fun e w' => e = .returned tr0v ∧ Pz x w' pb (failV c p) ∧ Gr (fun k => k = pb) W w' := by
 obtain ⟨⟨c0, c1, c2, c3⟩, f0, f1, f2, f3⟩ := h.facts
 have hb := h.lt
 by_cases he : p.e = 0
 ·
  have q : (p.e == 0) = true := by simpa using he
  have hic : (p.i : Int) ≤ (x.c : Int) := by have := h.hi; have := h.hc; omega
  have hnb : W.heap.size ≠ pb := by omega
  rw [failV, if_pos he]
  go_enter Tryz.func122, Tryz.ntmps122
  go_wp2_with fail
  go_region
  go_wp2_with fail
  have hA : (W.setCell ⟨pb, 3, none⟩ (.int .i64 c)).heap[pb]? = some (.cells #[.slice x.a (x.cut p) x.c, .int .i64 (p.i : Int), .int .i64 (p.d : Int), .int .i64 c] 85 (0, 0)) := heap_setCell_same W pb 3 _ 85 _ h.blk
  have hB : ((W.setCell ⟨pb, 3, none⟩ (.int .i64 c)).setCell ⟨pb, 0, none⟩ (.slice x.a p.i x.c)).heap[pb]? = some (.cells #[.slice x.a p.i x.c, .int .i64 (p.i : Int), .int .i64 (p.d : Int), .int .i64 c] 85 (0, 0)) := heap_setCell_same _ pb 0 _ 85 _ hA
  have gB : Gr (fun k => k = pb) W ((W.setCell ⟨pb, 3, none⟩ (.int .i64 c)).setCell ⟨pb, 0, none⟩ (.slice x.a p.i x.c)) := (Gr.set (S := fun k => k = pb) W ⟨pb, 3, none⟩ _ rfl).trans (Gr.set _ _ _ rfl)
  generalize hWB : (W.setCell ⟨pb, 3, none⟩ (.int .i64 c)).setCell ⟨pb, 0, none⟩ (.slice x.a p.i x.c) = WB at hB gB ⊢
  have hsz : WB.heap.size = W.heap.size := by rw [← hWB]; simp
  have hlB : pb < WB.heap.size := by omega
  rw [← hsz]
  clear hWB
  have hN := h.hN
  have hP : Pz x WB pb { i := p.i, d := p.d, e := c } := h.upd gB (fun k hk e => by omega) (by rw [Kx.cut, if_neg hc]; exact hB) h.hi h.hd
  have hG : Gr (fun _ => False) WB (WB.alloc (.cells #[.int .i64 0, .string e0, .int .i64 0, nl, nl] 25)).drew := (Gr.alloc WB _ _).trans (Gr.drew _ _)
  obtain ⟨⟨m0, m1, m2, m3, m4⟩, _⟩ := five_cells (heap_alloc_new WB (.cells #[.int .i64 0, .string e0, .int .i64 0, nl, nl] 25))
  exact bodyPost_ret (v := tr0v) (by simp [results, Tryz.results122, go_sem, m0, m1, m2, m3, m4]) rfl ⟨rfl, hP.g0 hG, gB.trans (hG.any _)⟩
 ·
  have q : (p.e == 0) = false := by simpa using he
  rw [failV, if_neg he]
  go_enter Tryz.func122, Tryz.ntmps122
  go_wp2_with fail
  obtain ⟨⟨m0, m1, m2, m3, m4⟩, _⟩ := five_cells (heap_alloc_new W (.cells #[.int .i64 0, .string e0, .int .i64 0, nl, nl] 25))
  exact bodyPost_ret (v := tr0v) (by simp [results, Tryz.results122, go_sem, m0, m1, m2, m3, m4]) rfl ⟨rfl, h.g0 (Gr.alloc _ _ _), Gr.alloc _ _ _⟩

set_option maxRecDepth 20000 in
set_option maxHeartbeats 1600000 in
theorem want_c (h : Pz x W pb p) (s : ByteArray) : Calls Tryz.prog 104 #[pt pb, .string s] W fun e w' => e = .returned (.tuple #[]) ∧ Pz x w' pb (wantV x.ts s p) ∧ Gr (fun k => k = pb) W w' := by
 have hk := take_c h s
 by_cases hs : isV x.ts p s = true
 ·
  rw [wantV, if_pos hs]
  rw [if_pos hs, hs] at hk
  clear hs
  go_enter Tryz.func104, Tryz.ntmps104
  go_wp2_with fail
  refine hk.mono ?_
  rintro e w1 ⟨rfl, h1, g1⟩
  go_wp2_with fail
  exact ⟨rfl, .tuple #[], by simp [results, Tryz.results104, go_sem], rfl, h1, g1⟩
 ·
  have hs' : isV x.ts p s = false := by simpa using hs
  rw [wantV, if_neg hs]
  rw [if_neg hs, hs'] at hk
  clear hs
  go_enter Tryz.func104, Tryz.ntmps104
  go_wp2_with fail
  refine hk.mono ?_
  rintro e w1 ⟨rfl, h1, g1⟩
  go_wp2_with fail
  refine (fail_c h1 160 (by decide)).mono ?_
  rintro e w2 ⟨rfl, h2, g2⟩
  go_wp2_with fail
  exact ⟨rfl, .tuple #[], by simp [results, Tryz.results104, go_sem], rfl, h2, g1.trans g2⟩

set_option maxRecDepth 20000 in
set_option maxHeartbeats 1600000 in
theorem node_c (W : World) (k : Int) (s : ByteArray) (a : Option Addr) (n c : Nat) : Calls Tryz.prog 88 #[.int .i64 k, .string s, .slice a n c] W fun e w' => e = .returned (trv k s 0 nl (.slice a n c)) ∧ Gr (fun _ => False) W w' := by
 go_enter Tryz.func88, Tryz.ntmps88
 go_wp2_with fail
 obtain ⟨⟨m0, m1, m2, m3, m4⟩, _⟩ := five_cells (heap_alloc_new W (.cells #[.int .i64 k, .string s, .int .i64 0, nl, .slice a n c] 25))
 exact bodyPost_ret (v := trv k s 0 nl (.slice a n c)) (by simp [results, Tryz.results88, go_sem, m0, m1, m2, m3, m4]) rfl ⟨rfl, Gr.alloc _ _ _⟩

set_option maxRecDepth 20000 in
set_option maxHeartbeats 1600000 in
theorem gname_c (h : Pz x W pb p) (k : Int) (hk0 : k ≠ 0) : Calls Tryz.prog 103 #[pt pb, .int .i64 k] W fun e w' => e = .returned (.string (nameV x.ts k p).1) ∧ Pz x w' pb (nameV x.ts k p).2 ∧ Gr (fun k => k = pb) W w' := by
 have hk := gpeek_c h
 have hi2 : (p.i : Int) ≤ 100000 := by have := h.hi; have := h.hm; omega
 have Hv : ∃ va vn vc, pkB x.vs p = .slice va vn vc := by
  by_cases hl : p.i < x.cut p
  · obtain ⟨_, _, _, hrow, _⟩ := h.at hl
    obtain ⟨a, c, e⟩ := hrow.sv
    exact ⟨_, _, _, e⟩
  · exact ⟨_, _, _, pkB_end hl h.bs⟩
 obtain ⟨va, vn, vc, hv⟩ := Hv
 rw [hv] at hk
 by_cases hs : (pkT x.ts p).k = k
 ·
  have hl := lt_of_kind (x := x) (p := p) (by rw [hs]; exact hk0)
  obtain ⟨he, hl2, ht, _⟩ := h.at hl
  have hsz := h.hS _ (List.mem_of_getElem? ht)
  rw [nameV, if_pos hs]
  generalize pkT x.ts p = t at hk hs hsz
  have q : (t.k != k) = false := by simp [hs]
  have hcl := fun w => clone_g t.s w hsz
  clear ht hs
  go_enter Tryz.func103, Tryz.ntmps103
  go_wp2_with fail
  refine hk.mono ?_
  rintro e w1 ⟨rfl, g1⟩
  have h1 := h.g0 g1
  obtain ⟨⟨c0, c1, c2, c3⟩, f0, f1, f2, f3⟩ := h1.facts
  have hb1 := h1.lt
  have hnb : w1.heap.size ≠ pb := by omega
  obtain ⟨h2, g2⟩ := h1.step he hl2
  go_wp2_with fail
  refine (hcl _).mono ?_
  rintro e w3 ⟨rfl, g3⟩
  go_wp2_with fail
  go_ret
  exact ⟨rfl, (h2.g0 (Gr.alloc _ _ _)).g0 g3, (((g1.any _).trans g2).trans (Gr.alloc _ _ _)).trans (g3.any _)⟩
 ·
  rw [nameV, if_neg hs]
  generalize pkT x.ts p = t at hk hs
  have q : (t.k != k) = true := by simp [hs]
  clear hs
  go_enter Tryz.func103, Tryz.ntmps103
  go_wp2_with fail
  refine hk.mono ?_
  rintro e w1 ⟨rfl, g1⟩
  have h1 := (h.g0 g1).g0 (Gr.alloc w1 (.cells #[.int .i64 t.k, .string t.s, .int .i64 t.n, .slice va vn vc, .int .i64 t.o] 81) _)
  go_wp2_with fail
  refine (fail_c h1 160 (by decide)).mono ?_
  rintro e w2 ⟨rfl, h2, g2⟩
  go_wp2_with fail
  go_ret
  exact ⟨rfl, h2, ((g1.any _).trans (Gr.alloc _ _ _)).trans g2⟩
end Go.Proofs.YtjedbfbolifjjaaGreatDoor
