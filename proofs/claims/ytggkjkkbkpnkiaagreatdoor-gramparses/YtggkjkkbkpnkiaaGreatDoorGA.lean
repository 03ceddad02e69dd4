/-
  Carried over from another seat of ours (GA).
-/
import Derived.Test.YtggkjkkbkpnkiaaGreatDoorJ
set_option linter.unusedVariables false
set_option linter.unusedSimpArgs false
namespace Go.Proofs.YtggkjkkbkpnkiaaGreatDoor
open Go.RowKit Go.Maps

/-- A tree: its kind, text, number, bytes, parts. -/
structure Tr where
  mk :: (k : Int) (s : ByteArray) (n : Int) (b : List Int) (l : List Tr)
abbrev trv (k : Int) (s : ByteArray) (n : Int) (bv lv : Value) : Value := .agg #[.int .i64 k, .string s, .int .i64 n, bv, lv]

def cellsOf : Value → List Value
  | .agg a => a.toList
  | _ => []

/-- A row of bytes that only blocks of A hold. -/
def RowB (A : Nat → Prop) (W : World) (bs : List Int) (v : Value) : Prop :=
  (bs = [] ∧ ∃ a c, v = .slice a 0 c) ∨ ∃ g cap cur, v = .slice (some ⟨g, 0, none⟩) bs.length cap ∧ A g ∧ W.heap[g]? = some (.cells cur 5 (0, 0)) ∧ bs.length ≤ cap ∧ cur.toList.take bs.length = bs.map (Value.int .u8)
/-- A row of trees. -/
def RowT (A : Nat → Prop) (W : World) (vs : List Value) (n : Nat) (v : Value) : Prop :=
  (n = 0 ∧ ∃ a c, v = .slice a 0 c) ∨ ∃ g cap cur, v = .slice (some ⟨g, 0, none⟩) n cap ∧ A g ∧ W.heap[g]? = some (.cells cur 30 (0, 0)) ∧ n ≤ cap ∧ cur.toList.take (n * 5) = vs.flatMap cellsOf

/-- The value v is the tree, in memory that only blocks of A hold. -/
def Rep (A : Nat → Prop) (W : World) : Tr → Value → Prop :=
  Tr.rec (motive_1 := fun _ => Value → Prop) (motive_2 := fun _ => List Value → Prop)
    (fun k s n b l ih v => ∃ bv lv vs, v = trv k s n bv lv ∧ RowB A W b bv ∧ RowT A W vs l.length lv ∧ ih vs)
    (fun vs => vs = []) (fun _ _ h1 h2 vs => ∃ v r, vs = v :: r ∧ h1 v ∧ h2 r)
def Reps (A : Nat → Prop) (W : World) : List Tr → List Value → Prop :=
  Tr.rec_1 (motive_1 := fun _ => Value → Prop) (motive_2 := fun _ => List Value → Prop)
    (fun k s n b l ih v => ∃ bv lv vs, v = trv k s n bv lv ∧ RowB A W b bv ∧ RowT A W vs l.length lv ∧ ih vs)
    (fun vs => vs = []) (fun _ _ h1 h2 vs => ∃ v r, vs = v :: r ∧ h1 v ∧ h2 r)
/-- What a part's memory asks of another world. -/
def Turn (A A' : Nat → Prop) (W W' : World) : Prop := ∀ k, A k → k < W.heap.size → A' k ∧ W'.heap[k]? = W.heap[k]?
theorem RowB.turn {A A' : Nat → Prop} {W W' : World} (h : Turn A A' W W') {bs : List Int} {v : Value} (k : RowB A W bs v) : RowB A' W' bs v := by
  rcases k with k | ⟨g, cap, cur, rfl, hg, hc, h1, h2⟩
  · exact .inl k
  · obtain ⟨h3, h4⟩ := h g hg (Array.getElem?_eq_some_iff.1 hc).1
    exact .inr ⟨g, cap, cur, rfl, h3, h4.trans hc, h1, h2⟩
theorem RowB.sv {A : Nat → Prop} {W : World} {bs : List Int} {v : Value} (k : RowB A W bs v) : ∃ a c, v = .slice a bs.length c := by
  rcases k with ⟨rfl, a, c, rfl⟩ | ⟨g, cap, cur, rfl, _⟩
  · exact ⟨_, _, rfl⟩
  · exact ⟨_, _, rfl⟩
theorem RowT.turn {A A' : Nat → Prop} {W W' : World} (h : Turn A A' W W') {vs : List Value} {n : Nat} {v : Value} (k : RowT A W vs n v) : RowT A' W' vs n v := by
  rcases k with k | ⟨g, cap, cur, rfl, hg, hc, h1, h2⟩
  · exact .inl k
  · obtain ⟨h3, h4⟩ := h g hg (Array.getElem?_eq_some_iff.1 hc).1
    exact .inr ⟨g, cap, cur, rfl, h3, h4.trans hc, h1, h2⟩
theorem Rep.turn {A A' : Nat → Prop} {W W' : World} (h : Turn A A' W W') {T : Tr} {v : Value} (k : Rep A W T v) : Rep A' W' T v :=
  Tr.rec (motive_1 := fun T => ∀ v, Rep A W T v → Rep A' W' T v) (motive_2 := fun l => ∀ vs, Reps A W l vs → Reps A' W' l vs)
    (fun t s n bs l ih v k => by
      obtain ⟨bv, lv, vs, rfl, k1, k2, k3⟩ := k
      exact ⟨bv, lv, vs, rfl, k1.turn h, k2.turn h, ih vs k3⟩)
    (fun _ k => k)
    (fun t l h1 h2 vs k => by
      obtain ⟨v, r, rfl, k1, k2⟩ := k
      exact ⟨v, r, rfl, h1 v k1, h2 r k2⟩) T v k
theorem Reps.turn {A A' : Nat → Prop} {W W' : World} (h : Turn A A' W W') : ∀ {l : List Tr} {vs : List Value}, Reps A W l vs → Reps A' W' l vs
  | [], vs, k => k
  | t :: l, vs, k => by
    obtain ⟨v, r, rfl, k1, k2⟩ := k
    exact ⟨v, r, rfl, Rep.turn h k1, Reps.turn h k2⟩
theorem Reps.snoc {A : Nat → Prop} {W : World} {T : Tr} {v : Value} : ∀ {l : List Tr} {vs : List Value}, Reps A W l vs → Rep A W T v → Reps A W (l ++ [T]) (vs ++ [v])
  | [], vs, k, h => by cases k; exact ⟨v, [], rfl, h, rfl⟩
  | t :: l, vs, k, h => by
    obtain ⟨v', r, rfl, k1, k2⟩ := k
    exact ⟨v', r ++ [v], rfl, k1, Reps.snoc k2 h⟩
theorem Reps.app {A : Nat → Prop} {W : World} {m : List Tr} {us : List Value} (hm : Reps A W m us) : ∀ {l : List Tr} {vs : List Value}, Reps A W l vs → Reps A W (l ++ m) (vs ++ us)
  | [], vs, k => by cases k; exact hm
  | t :: l, vs, k => by
    obtain ⟨v', r, rfl, k1, k2⟩ := k
    exact ⟨v', r ++ us, rfl, k1, Reps.app hm k2⟩
theorem Reps.len {A : Nat → Prop} {W : World} : ∀ {l : List Tr} {vs : List Value}, Reps A W l vs → vs.length = l.length
  | [], vs, k => by cases k; rfl
  | t :: l, vs, k => by
    obtain ⟨v', r, rfl, k1, k2⟩ := k
    simp [Reps.len k2]
theorem Rep.agg {A : Nat → Prop} {W : World} {T : Tr} {v : Value} (h : Rep A W T v) : ∃ k s n a1 n1 c1 a2 n2 c2, v = trv k s n (.slice a1 n1 c1) (.slice a2 n2 c2) := by
  cases T with
  | mk k s n bs l =>
    obtain ⟨bv, lv, vs, rfl, k1, k2, k3⟩ := h
    rcases k1 with ⟨_, a, c, rfl⟩ | ⟨g, cap, cur, rfl, _⟩ <;> rcases k2 with ⟨_, a', c', rfl⟩ | ⟨g', cap', cur', rfl, _⟩
    all_goals exact ⟨_, _, _, _, _, _, _, _, _, rfl⟩
theorem Reps.cells {A : Nat → Prop} {W : World} : ∀ {l : List Tr} {vs : List Value}, Reps A W l vs → (vs.flatMap cellsOf).length = l.length * 5
  | [], vs, k => by cases k; rfl
  | t :: l, vs, k => by
    obtain ⟨v', r, rfl, k1, k2⟩ := k
    obtain ⟨_, _, _, _, _, _, _, _, _, rfl⟩ := Rep.agg k1
    rw [List.flatMap_cons, List.length_append, Reps.cells k2]
    simp [cellsOf]
    omega
theorem rowT_own {W : World} {N n : Nat} {vs : List Value} {v : Value} (h : W.ownsRow N 30 5 v n (vs.flatMap cellsOf)) : RowT (fun k => N ≤ k) W vs n v := by
  rcases h.2 with ⟨rfl, h0⟩ | ⟨g, cap, cur, rfl, hg, h2, h3, _, _, h6⟩
  · exact .inl ⟨h0, _, _, rfl⟩
  · exact .inr ⟨g, cap, cur, rfl, hg, h2, h3, h6⟩
theorem rowB_own {W : World} {N : Nat} {bs : List Int} {v : Value} (h : W.ownsRow N 5 1 v bs.length (bs.map (Value.int .u8))) : RowB (fun k => N ≤ k) W bs v := by
  rcases h.2 with ⟨rfl, h0⟩ | ⟨g, cap, cur, rfl, hg, h2, h3, _, _, h6⟩
  · exact .inl ⟨List.eq_nil_of_length_eq_zero h0, _, _, rfl⟩
  · exact .inr ⟨g, cap, cur, rfl, hg, h2, h3, by simpa using h6⟩
theorem info25 : (Tryz.prog.info? 30).map (fun i => (i.zero, i.size, i.bytes)) = some (some (trv 0 e0 0 nl nl), 5, 80) := by kernel_rfl

/-! ### Tokens -/
/-- A token as it was handed in: its kind, text, number, bytes, place. -/
structure Tn where
  k : Int
  s : ByteArray
  n : Int
  b : List Int
  o : Int
abbrev tn0 : Tn := ⟨0, e0, 0, [], 0⟩
abbrev tnc (t : Tn) (v : Value) : List Value := [.int .i64 t.k, .string t.s, .int .i64 t.n, v, .int .i64 t.o]
def tncs : List Tn → List Value → List Value
  | t :: ts, v :: vs => tnc t v ++ tncs ts vs
  | _, _ => []
/-- The rows of the tokens' bytes. -/
def BsK (A : Nat → Prop) (W : World) : List Tn → List Value → Prop
  | [], [] => True
  | t :: ts, v :: vs => RowB A W t.b v ∧ BsK A W ts vs
  | _, _ => False
def RowK (A : Nat → Prop) (W : World) (ts : List Tn) (vs : List Value) (a : Option Addr) (c : Nat) : Prop :=
  (ts = [] ∧ vs = []) ∨ ∃ g cur, a = some ⟨g, 0, none⟩ ∧ A g ∧ W.heap[g]? = some (.cells cur 27 (0, 0)) ∧ cur.toList.take (ts.length * 5) = tncs ts vs
theorem BsK.turn {A A' : Nat → Prop} {W W' : World} (h : Turn A A' W W') : ∀ {ts : List Tn} {vs : List Value}, BsK A W ts vs → BsK A' W' ts vs
  | [], [], _ => trivial
  | t :: ts, v :: vs, k => ⟨k.1.turn h, BsK.turn h k.2⟩
  | [], _ :: _, k => k.elim
  | _ :: _, [], k => k.elim
theorem RowK.turn {A A' : Nat → Prop} {W W' : World} (h : Turn A A' W W') {ts : List Tn} {vs : List Value} {a : Option Addr} {c : Nat} (k : RowK A W ts vs a c) : RowK A' W' ts vs a c := by
  rcases k with k | ⟨g, cur, rfl, hg, hc, h2⟩
  · exact .inl k
  · obtain ⟨h3, h4⟩ := h g hg (Array.getElem?_eq_some_iff.1 hc).1
    exact .inr ⟨g, cur, rfl, h3, h4.trans hc, h2⟩
theorem tncs_at {A : Nat → Prop} {W : World} : ∀ {ts : List Tn} {vs : List Value}, BsK A W ts vs → ∀ (k : Nat) (t : Tn), ts[k]? = some t → ∃ v, vs[k]? = some v ∧ RowB A W t.b v ∧ ∀ j u, (tnc t v)[j]? = some u → (tncs ts vs)[k * 5 + j]? = some u
  | [], [], _, k, t, h => by simp at h
  | a :: ts, b :: vs, hb, 0, t, h => by
    simp at h; subst h
    refine ⟨b, rfl, hb.1, fun j u hj => ?_⟩
    rw [tncs, Nat.zero_mul, Nat.zero_add, List.getElem?_append_left]
    · exact hj
    · exact (List.getElem?_eq_some_iff.1 hj).1
  | a :: ts, b :: vs, hb, k + 1, t, h => by
    obtain ⟨v, h0, h1, h2⟩ := tncs_at hb.2 k t (by simpa using h)
    refine ⟨v, by simpa using h0, h1, fun j u hj => ?_⟩
    rw [tncs, List.getElem?_append_right (by simp; omega)]
    rw [← h2 j u hj]
    congr 1
    simp
    omega
  | [], _ :: _, h, _, _, _ => h.elim
  | _ :: _, [], h, _, _, _ => h.elim

/-! ### The parser -/
/-- Where it stands, how deep, the error. -/
structure Ps where
  i : Nat
  d : Nat
  e : Int
/-- What stays as it is: the tokens, their row. -/
structure Kx where
  N : Nat
  ts : List Tn
  vs : List Value
  a : Option Addr
  c : Nat
/-- How many tokens the parser still has. -/
def Kx.cut (x : Kx) (p : Ps) : Nat := if p.e = 0 then x.ts.length else p.i
/-- The levels of signs. -/
abbrev lw0 : ByteArray := ⟨#[61, 61, 32, 47, 61, 32, 60, 32, 62, 32, 61, 60, 32, 62, 61]⟩
abbrev lw1 : ByteArray := ⟨#[43, 32, 45]⟩
abbrev lw2 : ByteArray := ⟨#[42, 32, 47, 32, 114, 101, 109]⟩
def asL : List Int := (List.range 256).map fun i => if i = 9 ∨ i = 10 ∨ i = 11 ∨ i = 12 ∨ i = 13 ∨ i = 32 then 1 else 0
def Lv (W : World) : Prop := (∃ t f, W.heap[1]? = some (.cells #[.string lw0, .string lw1, .string lw2] t f)) ∧ ∃ t f, W.heap[4]? = some (.cells (asL.map (Value.int .u8)).toArray t f)
theorem Lv.gr {S : Nat → Prop} {W W' : World} (h : Lv W) (g : Gr S W W') (h3 : ¬ S 1) (h4 : ¬ S 4) : Lv W' := by
  obtain ⟨⟨t, f, k3⟩, ⟨t', f', k4⟩⟩ := h
  exact ⟨⟨t, f, g.keep k3 h3⟩, ⟨t', f', g.keep k4 h4⟩⟩
/-- The parser in memory. -/
structure Pz (x : Kx) (W : World) (pb : Nat) (p : Ps) : Prop where
  blk : W.heap[pb]? = some (.cells #[.slice x.a (x.cut p) x.c, .int .i64 (p.i : Int), .int .i64 (p.d : Int), .int .i64 p.e] 42 (0, 0))
  row : RowK (fun k => k < x.N) W x.ts x.vs x.a x.c
  bs : BsK (fun k => k < x.N) W x.ts x.vs
  lv : Lv W
  n4 : 4 < x.N
  hN : x.N ≤ pb
  hi : p.i ≤ x.ts.length
  hd : p.d ≤ 40
  hc : x.ts.length ≤ x.c
  hm : x.ts.length ≤ 100000
  hS : ∀ t ∈ x.ts, t.s.size ≤ 140737488351232
  hB : ∀ t ∈ x.ts, t.b.length ≤ 200000
variable {x : Kx} {W W' : World} {pb : Nat} {p p' : Ps}
theorem Pz.lt (h : Pz x W pb p) : pb < W.heap.size := (Array.getElem?_eq_some_iff.1 h.blk).1
theorem Pz.upd {S : Nat → Prop} (h : Pz x W pb p) (g : Gr S W W') (hs : ∀ k, k < x.N → ¬ S k) (hb : W'.heap[pb]? = some (.cells #[.slice x.a (x.cut p') x.c, .int .i64 (p'.i : Int), .int .i64 (p'.d : Int), .int .i64 p'.e] 42 (0, 0)))
    (hi : p'.i ≤ x.ts.length) (hd : p'.d ≤ 40) : Pz x W' pb p' := by
  have hn := h.n4
  have ht : Turn (fun k => k < x.N) (fun k => k < x.N) W W' := fun k hk hl => ⟨hk, g.block k hl (hs k hk)⟩
  exact ⟨hb, h.row.turn ht, h.bs.turn ht, h.lv.gr g (hs 1 (by omega)) (hs 4 hn), hn, h.hN, hi, hd, h.hc, h.hm, h.hS, h.hB⟩
theorem Pz.gr {S : Nat → Prop} (h : Pz x W pb p) (g : Gr S W W') (hs : ∀ k, k ≤ pb → ¬ S k) : Pz x W' pb p :=
  h.upd g (fun k hk => hs k (by have := h.hN; omega)) ((g.block pb h.lt (hs pb (Nat.le_refl _))).trans h.blk) h.hi h.hd
theorem Pz.g0 (h : Pz x W pb p) (g : Gr (fun _ => False) W W') : Pz x W' pb p := h.gr g (fun _ _ e => e)
theorem Pz.facts (h : Pz x W pb p) :
    (W.cell? ⟨pb, 0, none⟩ = some (.slice x.a (x.cut p) x.c) ∧ W.cell? ⟨pb, 1, none⟩ = some (.int .i64 (p.i : Int)) ∧ W.cell? ⟨pb, 2, none⟩ = some (.int .i64 (p.d : Int)) ∧ W.cell? ⟨pb, 3, none⟩ = some (.int .i64 p.e)) ∧
    (W.frozen? ⟨pb, 0, none⟩ = false ∧ W.frozen? ⟨pb, 1, none⟩ = false ∧ W.frozen? ⟨pb, 2, none⟩ = false ∧ W.frozen? ⟨pb, 3, none⟩ = false) := by
  have := h.blk
  simp [World.cell?, World.frozen?, this]
/-- The token that comes next; none at the end. -/
def pkT (ts : List Tn) (p : Ps) : Tn := if p.e = 0 then ts[p.i]?.getD tn0 else tn0
def pkB (vs : List Value) (p : Ps) : Value := if p.e = 0 then vs[p.i]?.getD nl else nl
/-- A token's cells at the place where the parser stands. -/
theorem Pz.at (h : Pz x W pb p) (hl : p.i < x.cut p) : p.e = 0 ∧ p.i < x.ts.length ∧ x.ts[p.i]? = some (pkT x.ts p) ∧ RowB (fun k => k < x.N) W (pkT x.ts p).b (pkB x.vs p) ∧ ∃ g, x.a = some ⟨g, 0, none⟩ ∧ g < x.N ∧
    ∀ j u, (tnc (pkT x.ts p) (pkB x.vs p))[j]? = some u → W.cell? ⟨g, p.i * 5 + j, none⟩ = some u := by
  have he : p.e = 0 := by
    by_cases e : p.e = 0
    · exact e
    · rw [Kx.cut, if_neg e] at hl; omega
  rw [Kx.cut, if_pos he] at hl
  have ht : x.ts[p.i]? = some (pkT x.ts p) := by
    rw [pkT, if_pos he, List.getElem?_eq_getElem hl]; rfl
  obtain ⟨v, hv, hb, hc⟩ := tncs_at h.bs p.i _ ht
  have hpv : pkB x.vs p = v := by rw [pkB, if_pos he, hv]; rfl
  rw [hpv]
  refine ⟨he, hl, ht, hb, ?_⟩
  rcases h.row with ⟨h0, _⟩ | ⟨g, cur, hg, hgN, hgc, h6⟩
  · rw [h0] at hl; simp at hl
  · refine ⟨g, hg, hgN, fun j u hu => ?_⟩
    have e := hc j u hu
    rw [← h6] at e
    have hlt : p.i * 5 + j < x.ts.length * 5 := by
      rcases Nat.lt_or_ge (p.i * 5 + j) (x.ts.length * 5) with h | h
      · exact h
      · rw [List.getElem?_eq_none (by simp; omega)] at e; cases e
    rw [List.getElem?_take_of_lt hlt] at e
    simp only [World.cell?, hgc]
    simpa using e
theorem pkT_end (h : ¬ p.i < x.cut p) : pkT x.ts p = tn0 := by
  by_cases e : p.e = 0
  · rw [Kx.cut, if_pos e] at h
    rw [pkT, if_pos e, List.getElem?_eq_none (by omega)]; rfl
  · rw [pkT, if_neg e]
theorem BsK.len {A : Nat → Prop} {W : World} : ∀ {ts : List Tn} {vs : List Value}, BsK A W ts vs → vs.length = ts.length
  | [], [], _ => rfl
  | t :: ts, v :: vs, k => by simp [BsK.len k.2]
  | [], _ :: _, k => k.elim
  | _ :: _, [], k => k.elim
theorem pkB_end (h : ¬ p.i < x.cut p) (hb : BsK (fun k => k < x.N) W x.ts x.vs) : pkB x.vs p = nl := by
  by_cases e : p.e = 0
  · rw [Kx.cut, if_pos e] at h
    have := hb.len
    rw [pkB, if_pos e, List.getElem?_eq_none (by omega)]; rfl
  · rw [pkB, if_neg e]
end Go.Proofs.YtggkjkkbkpnkiaaGreatDoor


