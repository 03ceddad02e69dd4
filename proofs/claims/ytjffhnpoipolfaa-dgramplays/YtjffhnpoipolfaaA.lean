/-
  A net in memory: its block, its map of boxes, its rows of datagrams, the bytes of each one.
-/
import Derived.Test.YtjffhnpoipolfaaProg
import Derived.WalkKit
import Derived.WalkLawsBesides
import Derived.ProofKit
import Derived.Deep.Light
import Derived.WalkSpells
import Derived.Lib.Hide
import Derived.Deep.QuietTactic
import Derived.BigQuiet
import Derived.Laws.BitsAllLaws
import Derived.Maps.AppendAt
import Derived.Maps.OwnSet
import Derived.Maps.OwnOps
import Derived.Laws.BytesArg
import Derived.Laws.OwnMore
import Derived.Laws.CopyRow
import Derived.Lib.Walk
set_option linter.unusedVariables false
set_option linter.unusedSimpArgs false
namespace Go.Proofs.Ytjffhnpoipolfaa
open Go.RowKit Go.Maps Go.WideMaps

/-! ### Worlds -/
/-- From W to W' only blocks of S and new ones have turned. -/
structure Gr (S : Nat → Prop) (W W' : World) : Prop where
  os : W'.os = W.os
  tape : W'.tape = W.tape
  output : W'.output = W.output
  size : W.heap.size ≤ W'.heap.size
  block : ∀ k, k < W.heap.size → ¬ S k → W'.heap[k]? = W.heap[k]?
variable {S S' : Nat → Prop} {W W1 W' : World}
theorem Gr.refl (S : Nat → Prop) (W : World) : Gr S W W := ⟨rfl, rfl, rfl, Nat.le_refl _, fun _ _ _ => rfl⟩
theorem Gr.trans' (h : Gr S W W1) (k : Gr S' W1 W') (hs : ∀ i, i < W.heap.size → S' i → S i) : Gr S W W' :=
  ⟨k.os.trans h.os, k.tape.trans h.tape, k.output.trans h.output, Nat.le_trans h.size k.size,
   fun i hi hn => (k.block i (Nat.lt_of_lt_of_le hi h.size) (fun e => hn (hs i hi e))).trans (h.block i hi hn)⟩
theorem Gr.trans (h : Gr S W W1) (k : Gr S W1 W') : Gr S W W' := h.trans' k (fun _ _ e => e)
theorem Gr.mono (h : Gr S W W') (hs : ∀ i, i < W.heap.size → S i → S' i) : Gr S' W W' :=
  ⟨h.os, h.tape, h.output, h.size, fun i hi hn => h.block i hi (fun e => hn (hs i hi e))⟩
theorem Gr.of_below (h : Below W.heap.size W W') (S : Nat → Prop) : Gr S W W' := ⟨h.os, h.tape, h.output, h.size, fun k hk _ => h.block k hk⟩
theorem Gr.of_grown {row : Option Nat} (h : W.grownBy W' row) (hr : ∀ k, row = some k → S k) : Gr S W W' :=
  ⟨h.os, h.tape, h.output, h.size, fun k hk hn => h.block k hk (fun e => hn (hr k e.symm))⟩
theorem Gr.alloc (W : World) (o : Obj) (S : Nat → Prop) : Gr S W (W.alloc o) := .of_below ((Below.refl _ W).alloc (Nat.le_refl _) o) S
theorem Gr.set (W : World) (p : Addr) (v : Value) (h : S p.block) : Gr S W (W.setCell p v) :=
  ⟨rfl, rfl, rfl, by simp, fun k _ hn => heap_setCell_other W p k v (fun e => hn (e ▸ h))⟩
theorem Gr.drew (W : World) (S : Nat → Prop) : Gr S W W.drew := .of_below ((Below.refl _ W).drew) S
theorem Gr.drewN (W : World) (m : Nat) (S : Nat → Prop) : Gr S W (W.drewN m) := ⟨rfl, rfl, rfl, Nat.le_refl _, fun _ _ _ => rfl⟩
theorem Gr.below (h : Gr S W W') {N : Nat} (hN : N ≤ W.heap.size) (hs : ∀ i, S i → N ≤ i) : Below N W W' :=
  ⟨h.os, h.tape, h.output, h.size, fun k hk => h.block k (by omega) (fun e => by have := hs k e; omega)⟩
/-- Nothing that was there has turned. -/
abbrev G0 := Gr (fun _ => False)
theorem Gr.of0 (h : G0 W W') : Gr S W W' := h.mono (fun _ _ e => e.elim)
/-- What was new at W is no matter. -/
theorem Gr.new (h : Gr S W W1) (k : Gr S' W1 W') (hs : ∀ i, S' i → S i ∨ W.heap.size ≤ i) : Gr S W W' := h.trans' k (fun i hi e => (hs i e).elim id (fun e => by omega))

/-! ### Bytes -/
def bs (l : List Nat) : List Value := l.map (fun (x : Nat) => Value.int .u8 (x : Int))
theorem bs_get (l : List Nat) (i : Nat) (h : i < l.length) : (bs l)[i]? = some (.int .u8 ((l.getD i 0 : Nat) : Int)) := by
  simp [bs, List.getElem?_eq_getElem h, List.getD_eq_getElem?_getD]
@[simp] theorem bs_length (l : List Nat) : (bs l).length = l.length := by simp [bs]
theorem bs_append (a b : List Nat) : bs (a ++ b) = bs a ++ bs b := by simp [bs]
theorem getD_lt {l : List Nat} (h : ∀ x ∈ l, x < 256) (i : Nat) : l.getD i 0 < 256 := by
  rw [List.getD_eq_getElem?_getD]
  rcases Nat.lt_or_ge i l.length with hi | hi
  · rw [List.getElem?_eq_getElem hi]; exact h _ (List.getElem_mem hi)
  · rw [List.getElem?_eq_none hi]; decide
/-- Bytes in memory. -/
structure Sl (W : World) (v : Value) (l : List Nat) : Prop where
  byte : ∀ x ∈ l, x < 256
  len : l.length ≤ 140737488355328
  at' : (v = .slice none 0 0 ∧ l = []) ∨ ∃ a cap, v = .slice (some a) l.length cap ∧ l.length ≤ cap ∧ cap ≤ 9223372036854775807 ∧ ∀ i, i < l.length → W.cell? (a.add i) = some (.int .u8 ((l.getD i 0 : Nat) : Int))
theorem Sl.blk {v : Value} {l : List Nat} (h : Sl W v l) (hb : ∀ b off len cap, v = .slice (some ⟨b, off, none⟩) len cap → b < W.heap.size → W'.heap[b]? = W.heap[b]?) : Sl W' v l := by
  refine ⟨h.byte, h.len, ?_⟩
  rcases h.at' with h0 | ⟨a, cap, rfl, h1, h2, h3⟩
  · exact .inl h0
  · refine .inr ⟨a, cap, rfl, h1, h2, fun i hi => ?_⟩
    have := h3 i hi
    obtain ⟨b, off, spot⟩ := a
    have hs : spot = none := by simpa [Addr.add] using World.cell?_spot (h3 0 (by omega))
    subst hs
    rw [Addr.add_lit] at this ⊢
    have hlt : b < W.heap.size := by
      rcases Nat.lt_or_ge b W.heap.size with hlt | hge
      · exact hlt
      · simp [World.cell?, Array.getElem?_eq_none hge] at this
    simp only [World.cell?, hb b off _ _ rfl hlt] at this ⊢
    exact this
theorem Sl.gr {v : Value} {l : List Nat} (h : Sl W v l) (g : Gr S W W') (hs : ∀ b off len cap, v = .slice (some ⟨b, off, none⟩) len cap → ¬ S b) : Sl W' v l :=
  h.blk (fun b off len cap e hlt => g.block b hlt (hs b off len cap e))
theorem Sl.g0 {v : Value} {l : List Nat} (h : Sl W v l) (g : G0 W W') : Sl W' v l := h.gr g (fun _ _ _ _ _ e => e)

/-! ### Datagrams -/
structure Dg where
  f : Int
  t : Int
  n : Nat
  bk : Nat
  by' : List Nat
  sp : Bool
abbrev dv (f t : Int) (n : Nat) (bv : Value) (sp : Bool) : Value := .agg #[.int .i64 f, .int .i64 t, .int .u64 (n : Int), bv, .bool sp]
abbrev Dg.bv (d : Dg) : Value := .slice (some ⟨d.bk, 0, none⟩) d.by'.length d.by'.length
abbrev Dg.cells (d : Dg) : List Value := [.int .i64 d.f, .int .i64 d.t, .int .u64 (d.n : Int), d.bv, .bool d.sp]
abbrev Dg.val (d : Dg) : Value := dv d.f d.t d.n d.bv d.sp
def flat (l : List Dg) : List Value := l.flatMap Dg.cells
@[simp] theorem flat_nil : flat [] = [] := rfl
@[simp] theorem flat_cons (d : Dg) (l : List Dg) : flat (d :: l) = d.cells ++ flat l := rfl
theorem flat_append (a b : List Dg) : flat (a ++ b) = flat a ++ flat b := by simp [flat]
@[simp] theorem flat_length (l : List Dg) : (flat l).length = l.length * 5 := by
  induction l with
  | nil => rfl
  | cons d l ih => simp only [flat_cons, List.length_append, ih, List.length_cons, List.length_nil]; omega
theorem flat_take (l : List Dg) : ∀ i, (flat l).take (i * 5) = flat (l.take i) := by
  induction l with
  | nil => simp
  | cons d l ih =>
    intro i
    cases i with
    | zero => simp
    | succ i =>
      rw [List.take_succ_cons, flat_cons, flat_cons, ← ih i, List.take_append]
      simp only [List.length_cons, List.length_nil]
      rw [show (i + 1) * 5 - (0 + 1 + 1 + 1 + 1 + 1) = i * 5 by omega, List.take_of_length_le (by simp; omega)]
theorem flat_drop (l : List Dg) : ∀ i, (flat l).drop (i * 5) = flat (l.drop i) := by
  induction l with
  | nil => simp
  | cons d l ih =>
    intro i
    cases i with
    | zero => simp
    | succ i =>
      rw [List.drop_succ_cons, flat_cons, ← ih i, List.drop_append]
      simp only [List.length_cons, List.length_nil]
      rw [show (i + 1) * 5 - (0 + 1 + 1 + 1 + 1 + 1) = i * 5 by omega, List.drop_of_length_le (by simp; omega)]
      rfl
theorem flat_get {l : List Dg} {i : Nat} {d : Dg} (h : l[i]? = some d) (j : Nat) (hj : j < 5) : (flat l)[i * 5 + j]? = d.cells[j]? := by
  have hi : i < l.length := (List.getElem?_eq_some_iff.1 h).1
  have e : l.drop i = d :: l.drop (i + 1) := by
    rw [List.drop_eq_getElem_cons hi]; congr 1; exact (List.getElem?_eq_some_iff.1 h).2
  have : ((flat l).drop (i * 5))[j]? = d.cells[j]? := by
    rw [flat_drop, e, flat_cons, List.getElem?_append_left (by simpa using hj)]
  rw [List.getElem?_drop] at this
  exact this

/-! ### A row of datagrams -/
theorem ownsRow_of_block {sv : Value} {n : Nat} {xs : List Value} (h : W.ownsRow 0 39 5 sv n xs) (hb : ∀ k, sv.ownBlock = some k → W'.heap[k]? = W.heap[k]?) : W'.ownsRow 0 39 5 sv n xs := by
  refine ⟨h.1, ?_⟩
  rcases h.2 with h0 | ⟨g, cap, cur, rfl, h1, h2, h3⟩
  · exact .inl h0
  · exact .inr ⟨g, cap, cur, rfl, h1, (hb g rfl).trans h2, h3⟩
theorem ownsRow_sv {sv : Value} {n : Nat} {xs : List Value} (h : W.ownsRow 0 39 5 sv n xs) : ∃ a cap, sv = .slice a n cap ∧ n ≤ cap ∧ cap ≤ 9223372036854775807 := by
  rcases h.2 with ⟨rfl, rfl⟩ | ⟨g, cap, cur, rfl, h1, h2, h3, h4, _⟩
  · exact ⟨_, _, rfl, Nat.le_refl _, by omega⟩
  · exact ⟨_, _, rfl, h3, by unfold maxLen at h4; omega⟩
theorem row_at {sv : Value} {l : List Dg} (h : W.ownsRow 0 39 5 sv l.length (flat l)) {i : Nat} {d : Dg} (hd : l[i]? = some d) :
    ∃ g cap, sv = .slice (some ⟨g, 0, none⟩) l.length cap ∧ l.length ≤ cap ∧ cap ≤ 9223372036854775807 ∧ (∀ j, W.frozen? ⟨g, j, none⟩ = false) ∧ W.cell? ⟨g, i * 5, none⟩ = some (.int .i64 d.f) ∧ W.cell? ⟨g, i * 5 + 1, none⟩ = some (.int .i64 d.t) ∧ W.cell? ⟨g, i * 5 + 2, none⟩ = some (.int .u64 (d.n : Int)) ∧ W.cell? ⟨g, i * 5 + 3, none⟩ = some d.bv ∧ W.cell? ⟨g, i * 5 + 4, none⟩ = some (.bool d.sp) := by
  have hi : i < l.length := (List.getElem?_eq_some_iff.1 hd).1
  rcases h.2 with ⟨rfl, e⟩ | ⟨g, cap, cur, rfl, h1, h2, h3, h4, h5, h6⟩
  · omega
  · have key : ∀ j, j < 5 → W.cell? ⟨g, i * 5 + j, none⟩ = d.cells[j]? := by
      intro j hj
      have e : (cur.toList.take (l.length * 5))[i * 5 + j]? = d.cells[j]? := by rw [h6, flat_get hd j hj]
      rw [List.getElem?_take_of_lt (by omega)] at e
      simp only [World.cell?, h2]
      simpa using e
    exact ⟨g, cap, rfl, h3, by unfold maxLen at h4; omega, fun j => by simp [World.frozen?, h2], key 0 (by omega), key 1 (by omega), key 2 (by omega), key 3 (by omega), key 4 (by omega)⟩
/-- A block of the row, its first m elements. -/
def Rw (W : World) (g cap m : Nat) (xs : List Value) : Prop := ∃ cur : Array Value, W.heap[g]? = some (.cells cur 39 (0, 0)) ∧ cur.size = cap * 5 ∧ cur.toList.take (m * 5) = xs
theorem Rw.set {g cap m : Nat} {xs : List Value} (h : Rw W g cap m xs) (k : Nat) (hk : m * 5 ≤ k) (v : Value) : Rw (W.setCell ⟨g, k, none⟩ v) g cap m xs := by
  obtain ⟨cur, h1, h2, h3⟩ := h
  refine ⟨cur.setIfInBounds k v, heap_setCell_same W g k _ 39 _ h1, by simpa using h2, ?_⟩
  rw [Array.toList_setIfInBounds, List.take_set, List.set_eq_of_length_le (by simp; omega), h3]

/-! ### The net -/
abbrev nl : Value := .slice none 0 0
abbrev pt (b : Nat) : Value := .pointer (some ⟨b, 0, none⟩)
def upd {α : Type} (f : Option Int → α) (i : Option Int) (x : α) : Option Int → α := fun j => if j = i then x else f j
@[simp] theorem upd_same {α : Type} (f : Option Int → α) (i : Option Int) (x : α) : upd f i x i = x := by simp [upd]
theorem upd_other {α : Type} (f : Option Int → α) {i j : Option Int} (x : α) (h : j ≠ i) : upd f i x j = f j := by simp [upd, h]
def RR (v : Value) : Option (DataW Value × List MemPlace) := some (.held v, [])
structure Ns where
  p : Nat
  mb : Nat
  nodes : Int
  sent : Nat
  lost : Nat
  z : Nat
  R : Option Int → Value
  q : Option Int → List Dg
def DgOk (sent : Nat) (d : Dg) : Prop := d.by'.length ≤ 1212 ∧ (∀ x ∈ d.by', x < 256) ∧ 1 ≤ d.n ∧ d.n ≤ sent ∧ 1 ≤ d.f ∧ d.f ≤ 64 ∧ 1 ≤ d.t ∧ d.t ≤ 64
def Mp (W : World) (mb z : Nat) (R : Option Int → Value) : Prop := ∃ D, W.ownsMap Try.prog 3 RR mb z D ∧ ∀ k : Int, (Lit.int .i64 k).wf = true → D.atKey (.int .i64 k) (.held nl) = .held (R (some k))
structure Nt (W : World) (s : Ns) : Prop where
  blk : W.heap[s.p]? = some (.cells #[.int .i64 s.nodes, .int .u64 (s.sent : Int), .int .i64 (s.lost : Int), s.R none, .map (some s.mb)] 60 (0, 0))
  map : Mp W s.mb s.z s.R
  row : ∀ i, W.ownsRow 0 39 5 (s.R i) (s.q i).length (flat (s.q i))
  byt : ∀ i, ∀ d ∈ s.q i, W.heap[d.bk]? = some (.cells (bs d.by').toArray 5 (0, 0))
  inj : ∀ i j g, (s.R i).ownBlock = some g → (s.R j).ownBlock = some g → i = j
  nod : ∀ i, ((s.q i).map Dg.bk).Nodup
  uni : ∀ i j, i ≠ j → ∀ d ∈ s.q i, ∀ e ∈ s.q j, d.bk ≠ e.bk
  wl : (s.q none).length ≤ 1024
  bl : ∀ k, (s.q (some k)).length ≤ 64
  ok : ∀ i, ∀ d ∈ s.q i, DgOk s.sent d
  bx : ∀ k, ∀ d ∈ s.q (some k), d.t = k
  nd : 1 ≤ s.nodes ∧ s.nodes ≤ 64
  sm : s.sent ≤ s.z ∧ s.lost ≤ 64 * s.z
/-- What the i-th queue is made of. -/
def Fq (s : Ns) (i : Option Int) (k : Nat) : Prop := k = s.p ∨ k = s.mb ∨ (s.R i).ownBlock = some k ∨ ∃ d ∈ s.q i, d.bk = k
def Fp (s : Ns) (k : Nat) : Prop := k = s.p ∨ k = s.mb ∨ (∃ i, (s.R i).ownBlock = some k) ∨ ∃ i, ∃ d ∈ s.q i, d.bk = k
theorem Fq.fp {s : Ns} {i : Option Int} {k : Nat} (h : Fq s i k) : Fp s k := by
  rcases h with h | h | h | h
  · exact .inl h
  · exact .inr (.inl h)
  · exact .inr (.inr (.inl ⟨i, h⟩))
  · exact .inr (.inr (.inr ⟨i, h⟩))
theorem Nt.rowb {s : Ns} (h : Nt W s) {i : Option Int} {g : Nat} (e : (s.R i).ownBlock = some g) : ∃ cur, W.heap[g]? = some (.cells cur 39 (0, 0)) := by
  rcases (h.row i).2 with ⟨e1, _⟩ | ⟨g', cap, cur, e1, h1, h2, _⟩
  · rw [e1] at e; cases e
  · rw [e1] at e; cases e; exact ⟨cur, h2⟩
theorem Mp.blk {mb z : Nat} {R : Option Int → Value} (h : Mp W mb z R) : ∃ es c, W.heap[mb]? = some (.map es c) := by
  obtain ⟨D, ⟨es, c, h1, _⟩, _⟩ := h; exact ⟨es, c, h1⟩
theorem Mp.of_block {mb z : Nat} {R : Option Int → Value} (h : Mp W mb z R) (hb : W'.heap[mb]? = W.heap[mb]?) : Mp W' mb z R := by
  obtain ⟨D, ⟨es, c, h1, h2⟩, h3⟩ := h; exact ⟨D, ⟨es, c, hb.trans h1, h2⟩, h3⟩
theorem Mp.mono {mb z z' : Nat} {R : Option Int → Value} (h : Mp W mb z R) (hz : z ≤ z') : Mp W mb z' R := by
  obtain ⟨D, h1, h2⟩ := h; exact ⟨D, h1.mono hz, h2⟩
theorem lt_of_blk {k : Nat} {o : Obj} (h : W.heap[k]? = some o) : k < W.heap.size := (Array.getElem?_eq_some_iff.1 h).1
theorem Nt.lt {s : Ns} (h : Nt W s) {k : Nat} (hk : Fp s k) : k < W.heap.size := by
  rcases hk with rfl | rfl | ⟨i, e⟩ | ⟨i, d, hd, rfl⟩
  · exact lt_of_blk h.blk
  · obtain ⟨es, c, e⟩ := h.map.blk; exact lt_of_blk e
  · obtain ⟨cur, e⟩ := h.rowb e; exact lt_of_blk e
  · exact lt_of_blk (h.byt i d hd)
/-- A block of bytes that is none of the datagrams' is not the net's. -/
theorem Nt.notfp {s : Ns} (h : Nt W s) {k : Nat} {c : Array Value} {fr : Nat × Nat} (hk : W.heap[k]? = some (.cells c 5 fr)) (hn : ∀ i, ∀ d ∈ s.q i, d.bk ≠ k) : ¬ Fp s k := by
  rintro (rfl | rfl | ⟨i, e⟩ | ⟨i, d, hd, e⟩)
  · rw [h.blk] at hk; simp at hk
  · obtain ⟨es, c, e⟩ := h.map.blk; rw [e] at hk; cases hk
  · obtain ⟨cur, e⟩ := h.rowb e; rw [e] at hk; simp at hk
  · exact hn i d hd e
theorem Nt.kept {s : Ns} (h : Nt W s) (hk : ∀ k, Fp s k → W'.heap[k]? = W.heap[k]?) : Nt W' s :=
  { blk := (hk _ (.inl rfl)).trans h.blk, map := h.map.of_block (hk _ (.inr (.inl rfl))), row := fun i => ownsRow_of_block (h.row i) (fun k e => hk k (.inr (.inr (.inl ⟨i, e⟩)))),
    byt := fun i d hd => (hk _ (.inr (.inr (.inr ⟨i, d, hd, rfl⟩)))).trans (h.byt i d hd), inj := h.inj, nod := h.nod, uni := h.uni, wl := h.wl, bl := h.bl, ok := h.ok, bx := h.bx, nd := h.nd, sm := h.sm }
theorem Nt.gr {s : Ns} (h : Nt W s) (g : Gr S W W') (hs : ∀ k, Fp s k → ¬ S k) : Nt W' s := h.kept (fun k hk => g.block k (h.lt hk) (hs k hk))
theorem Nt.g0 {s : Ns} (h : Nt W s) (g : G0 W W') : Nt W' s := h.gr g (fun _ _ e => e)
/-- A call of a net has gone by. -/
structure Nz (X : Nat → Prop) (W : World) (s : Ns) (W' : World) (s' : Ns) : Prop where
  nt : Nt W' s'
  p : s'.p = s.p
  nodes : s'.nodes = s.nodes
  z : s'.z ≤ s.z + 4
  gr : Gr (Fp s) W W'
  fp : ∀ k, Fp s' k → Fp s k ∨ W.heap.size ≤ k ∨ X k
abbrev Nx := Nz (fun _ => False)
theorem Nz.trans {X X' : Nat → Prop} {s s1 s' : Ns} (h : Nz X W s W1 s1) (k : Nz X' W1 s1 W' s') (hz : s'.z ≤ s.z + 4) (hX : ∀ i, X i → Fp s i) (hX' : ∀ i, X' i → Fp s i) : Nx W s W' s' := by
  have hsz := h.gr.size
  refine ⟨k.nt, k.p.trans h.p, k.nodes.trans h.nodes, hz, h.gr.trans' k.gr (fun i hi e => ?_), fun i hi => ?_⟩
  · rcases h.fp i e with e | e | e
    · exact e
    · omega
    · exact hX i e
  · rcases k.fp i hi with e | e | e
    · rcases h.fp i e with e | e | e
      · exact .inl e
      · exact .inr (.inl e)
      · exact .inl (hX i e)
    · exact .inr (.inl (by omega))
    · exact .inl (hX' i e)
theorem DgOk.mono {n n' : Nat} {d : Dg} (h : DgOk n d) (hn : n ≤ n') : DgOk n' d := by
  obtain ⟨h1, h2, h3, h4, h5⟩ := h; exact ⟨h1, h2, h3, Nat.le_trans h4 hn, h5⟩
/-- One queue has turned. -/
theorem Nt.queue {s : Ns} (h : Nt W s) (X : Nat → Prop) (i : Option Int) (g : Gr (Fq s i) W W') (sent' lost' z' : Nat) (sv' : Value) (l' : List Dg)
    (hblk : W'.heap[s.p]? = some (.cells #[.int .i64 s.nodes, .int .u64 (sent' : Int), .int .i64 (lost' : Int), upd s.R i sv' none, .map (some s.mb)] 60 (0, 0)))
    (hmap : Mp W' s.mb z' (upd s.R i sv')) (hrow : W'.ownsRow 0 39 5 sv' l'.length (flat l')) (hloc : ∀ k, sv'.ownBlock = some k → (s.R i).ownBlock = some k ∨ W.heap.size ≤ k)
    (hnd : (l'.map Dg.bk).Nodup) (hfr : ∀ d ∈ l', (∃ e ∈ s.q i, e.bk = d.bk) ∨ ((∀ j, ∀ e ∈ s.q j, e.bk ≠ d.bk) ∧ (W.heap.size ≤ d.bk ∨ X d.bk)))
    (hby : ∀ d ∈ l', W'.heap[d.bk]? = some (.cells (bs d.by').toArray 5 (0, 0))) (hok : ∀ d ∈ l', DgOk sent' d) (hbx : ∀ k, i = some k → ∀ d ∈ l', d.t = k)
    (hlen : l'.length ≤ if i = none then 1024 else 64) (hs : s.sent ≤ sent') (hz : z' ≤ s.z + 1) (hz0 : s.z ≤ z') (hs1 : sent' ≤ z') (hl1 : lost' ≤ 64 * z') :
    Nz X W s W' { s with sent := sent', lost := lost', z := z', R := upd s.R i sv', q := upd s.q i l' } := by
  have hkeep : ∀ j, j ≠ i → ∀ k, (s.R j).ownBlock = some k → W'.heap[k]? = W.heap[k]? := by
    intro j hj k hk
    obtain ⟨cur, hc⟩ := h.rowb hk
    refine g.block k (lt_of_blk hc) ?_
    rintro (rfl | rfl | e | ⟨d, hd, rfl⟩)
    · rw [h.blk] at hc; simp at hc
    · obtain ⟨es, c, e⟩ := h.map.blk; rw [e] at hc; cases hc
    · exact hj (h.inj j i k hk e)
    · rw [h.byt i d hd] at hc; simp at hc
  have hkeepb : ∀ j, j ≠ i → ∀ e ∈ s.q j, W'.heap[e.bk]? = W.heap[e.bk]? := by
    intro j hj e he
    have hc := h.byt j e he
    refine g.block _ (lt_of_blk hc) ?_
    rintro (e1 | e1 | e1 | ⟨d, hd, e1⟩)
    · rw [e1, h.blk] at hc; simp at hc
    · obtain ⟨es, c, e2⟩ := h.map.blk; rw [e1, e2] at hc; cases hc
    · obtain ⟨cur, e2⟩ := h.rowb e1; rw [e2] at hc; simp at hc
    · exact h.uni j i hj e he d hd e1.symm
  have hother : ∀ j, j ≠ i → ∀ d ∈ l', ∀ e ∈ s.q j, d.bk ≠ e.bk := by
    intro j hj d hd e he e1
    rcases hfr d hd with ⟨x, hx, e2⟩ | ⟨hn, _⟩
    · exact h.uni i j (Ne.symm hj) x hx e he (e2.trans e1)
    · exact hn j e he e1.symm
  refine ⟨{ blk := hblk, map := hmap, row := ?_, byt := ?_, inj := ?_, nod := ?_, uni := ?_, wl := ?_, bl := ?_, ok := ?_, bx := ?_, nd := h.nd, sm := ⟨hs1, hl1⟩ }, rfl, rfl, by show z' ≤ s.z + 4; omega, g.mono (fun _ _ e => e.fp), ?_⟩
  · intro j
    by_cases hj : j = i
    · subst hj; simpa using hrow
    · simp only [upd_other _ _ hj]; exact ownsRow_of_block (h.row j) (hkeep j hj)
  · intro j d hd
    by_cases hj : j = i
    · subst hj; exact hby d (by simpa using hd)
    · simp only [upd_other _ _ hj] at hd; exact (hkeepb j hj d hd).trans (h.byt j d hd)
  · intro j k gg hj hk
    by_cases ej : j = i <;> by_cases ek : k = i
    · exact ej.trans ek.symm
    · subst ej
      simp only [upd_same, upd_other _ _ ek] at hj hk
      rcases hloc gg hj with e | e
      · exact absurd (h.inj k j gg hk e) ek
      · obtain ⟨cur, hc⟩ := h.rowb hk; have := lt_of_blk hc; omega
    · subst ek
      simp only [upd_same, upd_other _ _ ej] at hj hk
      rcases hloc gg hk with e | e
      · exact absurd (h.inj j k gg hj e) ej
      · obtain ⟨cur, hc⟩ := h.rowb hj; have := lt_of_blk hc; omega
    · simp only [upd_other _ _ ej, upd_other _ _ ek] at hj hk
      exact h.inj j k gg hj hk
  · intro j
    by_cases hj : j = i
    · subst hj; simpa using hnd
    · simp only [upd_other _ _ hj]; exact h.nod j
  · intro j k hjk d hd e he
    by_cases ej : j = i <;> by_cases ek : k = i
    · exact absurd (ej.trans ek.symm) hjk
    · subst ej
      simp only [upd_same, upd_other _ _ ek] at hd he
      exact hother k ek d hd e he
    · subst ek
      simp only [upd_same, upd_other _ _ ej] at hd he
      exact fun e1 => hother j ej e he d hd e1.symm
    · simp only [upd_other _ _ ej, upd_other _ _ ek] at hd he
      exact h.uni j k hjk d hd e he
  · by_cases hj : none = i
    · subst hj; simpa using hlen
    · simp only [upd_other _ _ hj]; exact h.wl
  · intro k
    by_cases hj : some k = i
    · subst hj; simpa using hlen
    · simp only [upd_other _ _ hj]; exact h.bl k
  · intro j d hd
    by_cases hj : j = i
    · subst hj; exact hok d (by simpa using hd)
    · simp only [upd_other _ _ hj] at hd; exact (h.ok j d hd).mono hs
  · intro k d hd
    by_cases hj : some k = i
    · subst hj; exact hbx k rfl d (by simpa using hd)
    · simp only [upd_other _ _ hj] at hd; exact h.bx k d hd
  · rintro k (e | e | ⟨j, e⟩ | ⟨j, d, hd, rfl⟩)
    · exact .inl (.inl e)
    · exact .inl (.inr (.inl e))
    · by_cases hj : j = i
      · subst hj
        simp only [upd_same] at e
        exact (hloc k e).imp (fun e => .inr (.inr (.inl ⟨j, e⟩))) .inl
      · simp only [upd_other _ _ hj] at e
        exact .inl (.inr (.inr (.inl ⟨j, e⟩)))
    · by_cases hj : j = i
      · subst hj
        simp only [upd_same] at hd
        rcases hfr d hd with ⟨x, hx, e2⟩ | ⟨_, hn⟩
        · exact .inl (.inr (.inr (.inr ⟨j, x, hx, e2⟩)))
        · exact .inr hn
      · simp only [upd_other _ _ hj] at hd
        exact .inl (.inr (.inr (.inr ⟨j, d, hd, rfl⟩)))
end Go.Proofs.Ytjffhnpoipolfaa
