/-
  The reference's net in memory; node, Box, Same, All.
-/
import Derived.Test.YtjffhnpoipolfaaS
set_option linter.unusedVariables false
set_option linter.unusedSimpArgs false
namespace Go.Proofs.Ytjffhnpoipolfaa
open Go.RowKit Go.Maps Go.WideMaps
variable {S S' Y : Nat → Prop} {W W1 W' : World}

/-- A datagram of the reference: its bytes may be shared. -/
structure Dx where
  f : Int
  t : Int
  n : Nat
  a : Option Addr
  c : Nat
  by' : List Nat
  sp : Bool
abbrev Dx.bv (d : Dx) : Value := .slice d.a d.by'.length d.c
abbrev Dx.cells (d : Dx) : List Value := [.int .i64 d.f, .int .i64 d.t, .int .u64 (d.n : Int), d.bv, .bool d.sp]
abbrev Dx.val (d : Dx) : Value := dv d.f d.t d.n d.bv d.sp
def abx (d : Dx) : Int × Int × Nat × List Nat × Bool := (d.f, d.t, d.n, d.by', d.sp)
def flatX (l : List Dx) : List Value := l.flatMap Dx.cells
@[simp] theorem flatX_nil : flatX [] = [] := rfl
@[simp] theorem flatX_cons (d : Dx) (l : List Dx) : flatX (d :: l) = d.cells ++ flatX l := rfl
theorem flatX_append (a b : List Dx) : flatX (a ++ b) = flatX a ++ flatX b := by simp [flatX]
@[simp] theorem flatX_length (l : List Dx) : (flatX l).length = l.length * 5 := by
  induction l with
  | nil => rfl
  | cons d l ih => simp only [flatX_cons, List.length_append, ih, List.length_cons, List.length_nil]; omega
theorem flatX_get {l : List Dx} {i : Nat} {d : Dx} (h : l[i]? = some d) (j : Nat) (hj : j < 5) : (flatX l)[i * 5 + j]? = d.cells[j]? := by
  induction l generalizing i with
  | nil => simp at h
  | cons x l ih =>
    cases i with
    | zero =>
      simp at h
      subst h
      rw [flatX_cons, Nat.zero_mul, Nat.zero_add, List.getElem?_append_left (by simpa using hj)]
    | succ i =>
      rw [flatX_cons, List.getElem?_append_right (by simp; omega)]
      simp only [List.length_cons, List.length_nil]
      rw [show (i + 1) * 5 + j - (0 + 1 + 1 + 1 + 1 + 1) = i * 5 + j by omega]
      exact ih (by simpa using h)
theorem flatX_take (l : List Dx) : ∀ i, (flatX l).take (i * 5) = flatX (l.take i) := by
  induction l with
  | nil => simp
  | cons d l ih =>
    intro i
    cases i with
    | zero => simp
    | succ i =>
      rw [List.take_succ_cons, flatX_cons, flatX_cons, ← ih i, List.take_append]
      simp only [List.length_cons, List.length_nil]
      rw [show (i + 1) * 5 - (0 + 1 + 1 + 1 + 1 + 1) = i * 5 by omega, List.take_of_length_le (by simp; omega)]
theorem flatX_drop (l : List Dx) : ∀ i, (flatX l).drop (i * 5) = flatX (l.drop i) := by
  induction l with
  | nil => simp
  | cons d l ih =>
    intro i
    cases i with
    | zero => simp
    | succ i =>
      rw [List.drop_succ_cons, flatX_cons, ← ih i, List.drop_append]
      simp only [List.length_cons, List.length_nil]
      rw [show (i + 1) * 5 - (0 + 1 + 1 + 1 + 1 + 1) = i * 5 by omega, List.drop_of_length_le (by simp; omega)]
      rfl
theorem flatX_one {l : List Dx} : ∀ v ∈ flatX l, v.oneCell' = true := by
  intro v hv
  simp only [flatX, List.mem_flatMap] at hv
  obtain ⟨d, _, hv⟩ := hv
  simp only [Dx.cells, List.mem_cons, List.not_mem_nil, or_false] at hv
  rcases hv with rfl | rfl | rfl | rfl | rfl <;> rfl
/-- Bytes of a datagram, in blocks of Y. -/
def SlY (Y : Nat → Prop) (W : World) (d : Dx) : Prop := Sl W d.bv d.by' ∧ (∀ b off, d.a = some ⟨b, off, none⟩ → d.by' = [] ∨ Y b) ∧ d.by'.length ≤ 1212
/-- A list of the reference's, in blocks of Y. -/
structure Rg (Y : Nat → Prop) (W : World) (v : Value) (l : List Dx) : Prop where
  row : W.ownsRow 0 39 5 v l.length (flatX l)
  own : ∀ g, v.ownBlock = some g → Y g
  byt : ∀ d ∈ l, SlY Y W d
theorem Sl.of_nil {v : Value} {l : List Nat} (h : Sl W v l) (e : l = []) : Sl W' v l := by
  subst e
  refine ⟨h.byte, h.len, ?_⟩
  rcases h.at' with h0 | ⟨a, cap, h1, h2, h3, h4⟩
  · exact .inl h0
  · exact .inr ⟨a, cap, h1, h2, h3, fun i hi => by simp at hi⟩
theorem SlY.keep {d : Dx} (h : SlY Y W d) (hk : ∀ k, Y k → W'.heap[k]? = W.heap[k]?) : SlY Y W' d := by
  refine ⟨?_, h.2.1, h.2.2⟩
  by_cases e0 : d.by' = []
  · exact h.1.of_nil e0
  · exact h.1.blk (fun b off len cap e _ => hk b ((h.2.1 b off (by have e2 : d.bv = _ := e; injection e2)).resolve_left e0))
theorem Rg.keep {v : Value} {l : List Dx} (h : Rg Y W v l) (hk : ∀ k, Y k → W'.heap[k]? = W.heap[k]?) : Rg Y W' v l :=
  ⟨ownsRow_of_block h.row (fun k e => hk k (h.own k e)), h.own, fun d hd => (h.byt d hd).keep hk⟩
theorem Rg.wide {Y' : Nat → Prop} {v : Value} {l : List Dx} (h : Rg Y W v l) (hY : ∀ k, Y k → Y' k) : Rg Y' W v l :=
  ⟨h.row, fun g e => hY g (h.own g e), fun d hd => ⟨(h.byt d hd).1, fun b off e => ((h.byt d hd).2.1 b off e).imp id (hY b), (h.byt d hd).2.2⟩⟩
theorem Rg.trim {v : Value} {l : List Dx} (h : Rg Y W v l) : Rg (fun k => Y k ∧ k < W.heap.size) W v l :=
  ⟨h.row, fun g e => ⟨h.own g e, (h.row.lt g e).2⟩, fun d hd => by
    have h1 := h.byt d hd
    refine ⟨h1.1, fun b off e => ?_, h1.2.2⟩
    rcases h1.2.1 b off e with e1 | e1
    · exact .inl e1
    · by_cases e0 : d.by' = []
      · exact .inl e0
      · refine .inr ⟨e1, ?_⟩
        rcases h1.1.at' with ⟨_, e2⟩ | ⟨a, cap, e2, _, _, hc⟩
        · exact absurd e2 e0
        · have e3 : d.bv = _ := e2
          injection e3 with e4
          rw [e4] at e
          cases e
          have := hc 0 (by cases hb : d.by' with | nil => exact absurd hb e0 | cons _ _ => simp)
          exact World.block_lt_of_cell? W _ this⟩
theorem rowx_at {v : Value} {l : List Dx} (h : W.ownsRow 0 39 5 v l.length (flatX l)) {i : Nat} {d : Dx} (hd : l[i]? = some d) :
    ∃ g cap, v = .slice (some ⟨g, 0, none⟩) l.length cap ∧ l.length ≤ cap ∧ cap ≤ 9223372036854775807 ∧ W.cell? ⟨g, i * 5, none⟩ = some (.int .i64 d.f) ∧ W.cell? ⟨g, i * 5 + 1, none⟩ = some (.int .i64 d.t) ∧ W.cell? ⟨g, i * 5 + 2, none⟩ = some (.int .u64 (d.n : Int)) ∧ W.cell? ⟨g, i * 5 + 3, none⟩ = some d.bv ∧ W.cell? ⟨g, i * 5 + 4, none⟩ = some (.bool d.sp) := by
  have hi : i < l.length := (List.getElem?_eq_some_iff.1 hd).1
  rcases h.2 with ⟨rfl, e⟩ | ⟨g, cap, cur, rfl, h1, h2, h3, h4, h5, h6⟩
  · omega
  · have key : ∀ j, j < 5 → W.cell? ⟨g, i * 5 + j, none⟩ = d.cells[j]? := by
      intro j hj
      have e : (cur.toList.take (l.length * 5))[i * 5 + j]? = d.cells[j]? := by rw [h6, flatX_get hd j hj]
      rw [List.getElem?_take_of_lt (by omega)] at e
      simp only [World.cell?, h2]
      simpa using e
    exact ⟨g, cap, rfl, h3, by unfold maxLen at h4; omega, key 0 (by omega), key 1 (by omega), key 2 (by omega), key 3 (by omega), key 4 (by omega)⟩
/-- The reference's net as a value. -/
abbrev rv (nodes : Int) (sent : Nat) (wv bv : Value) (lost : Nat) : Value := .agg #[.int .i64 nodes, .int .u64 (sent : Int), wv, bv, .int .i64 (lost : Int)]
theorem node_r (W : World) (nodes : Int) (sent : Nat) (wv bv : Value) (lost : Nat) (k : Int) : Calls Try.prog 28 #[rv nodes sent wv bv lost, .int .i64 k] W fun e w' => e = .returned (.bool (nod k nodes)) ∧ G0 W w' := by
  unfold nod
  by_cases h1 : 0 < k
  · have e1 : (1 : Int) ≤ k := by omega
    by_cases h2 : k ≤ nodes <;> simp only [e1, h2, decide_true, decide_false, Bool.and_true, Bool.and_false]
    all_goals (go_enter Try.func28, Try.ntmps28; go_wp2; go_ret; exact ⟨rfl, Gr.alloc _ _ _⟩)
  · have e1 : ¬ (1 : Int) ≤ k := by omega
    simp only [e1, decide_false, Bool.false_and]
    go_enter Try.func28, Try.ntmps28; go_wp2; go_ret; exact ⟨rfl, Gr.alloc _ _ _⟩
/-- How many of a list are for a node. -/
def cnt (l : List Dx) (k : Int) : Nat := (l.filter (fun d => d.t == k)).length
theorem cnt_snoc (l : List Dx) (d : Dx) (k : Int) : cnt (l ++ [d]) k = cnt l k + (if d.t = k then 1 else 0) := by
  unfold cnt
  rw [List.filter_append, List.length_append]
  by_cases h : d.t = k <;> simp [h]
set_option maxRecDepth 20000 in
set_option maxHeartbeats 800000 in
theorem box_r (W : World) (nodes : Int) (sent : Nat) (wv bv : Value) (lost : Nat) (k : Int) (l : List Dx) (h : W.ownsRow 0 39 5 bv l.length (flatX l)) (hl : (l.length : Int) ≤ 1000000) : Calls Try.prog 19 #[rv nodes sent wv bv lost, .int .i64 k] W fun e w' => e = .returned (.int .i64 (cnt l k : Int)) ∧ G0 W w' := by
  obtain ⟨a, cap, rfl, hc1, hc2⟩ := ownsRow_sv h
  have Hr := Lib.hid h
  clear h
  have hb0 : (W.alloc (.cells #[.int .i64 nodes, .int .u64 (sent : Int), wv, .slice a l.length cap, .int .i64 (lost : Int)] 32)).heap[W.heap.size]? = some (.cells #[.int .i64 nodes, .int .u64 (sent : Int), wv, .slice a l.length cap, .int .i64 (lost : Int)] 32 (0, 0)) := heap_alloc_new _ _
  have Hb0 := Lib.hid hb0
  clear hb0
  go_enter Try.func19, Try.ntmps19
  go_wp2_with fail
  go_loopw [5, 6] (fun m j wr => ∃ i : Nat, i ≤ l.length ∧ j = .int .i64 (i : Int) ∧ m = .int .i64 (cnt (l.take i) k : Int) ∧ wr = W.alloc (.cells #[.int .i64 nodes, .int .u64 (sent : Int), wv, .slice a l.length cap, .int .i64 (lost : Int)] 32)) (fun _ j _ => l.length - (intOf j).toNat)
  case atStart => exact ⟨0, Nat.zero_le _, rfl, rfl, rfl⟩
  case round =>
    obtain ⟨i, hi, rfl, rfl, hw⟩ := hrel
    have hcl : ((cnt (l.take i) k : Nat) : Int) ≤ 1000000 := by
      have := List.length_filter_le (fun d : Dx => d.t == k) (l.take i)
      have h2 : (l.take i).length ≤ l.length := by rw [List.length_take]; omega
      unfold cnt
      omega
    obtain ⟨c0, c1, c2, c3, c4, _⟩ := five Hb0.out
    rw [← hw] at c0 c1 c2 c3 c4
    have hg : G0 W wr := by rw [hw]; exact Gr.alloc _ _ _
    have Hw := Lib.hid hw
    by_cases hlt : i < l.length
    · obtain ⟨d, hd⟩ : ∃ d, l[i]? = some d := ⟨_, List.getElem?_eq_getElem hlt⟩
      obtain ⟨g, cap', e, _, _, a0, a1, a2, a3, a4⟩ := rowx_at (ownsRow_g0 Hr.out hg) hd
      cases e
      have hI : (i : Int) < (l.length : Int) := by omega
      have htk : l.take (i + 1) = l.take i ++ [d] := by rw [List.take_add_one, hd]; rfl
      have hcn := cnt_snoc (l.take i) d k
      rw [← htk] at hcn
      generalize cnt (l.take i) k = x at *
      have Hcn := Lib.hid hcn
      clear hcn htk hd hg hw
      by_cases hq : d.t = k
      · have hqb : (d.t == k) = true := by simpa using hq
        have H2 : Hid (cnt (l.take (i + 1)) k = x + 1) := Lib.hid (by rw [Hcn.out, if_pos hq])
        clear hq
        go_wp2_with fail
        exact ⟨⟨i + 1, by omega, by go_num, by rw [H2.out]; push_cast; rfl, Hw.out⟩, by simp [intOf]; omega⟩
      · have hqb : (d.t == k) = false := by simpa using hq
        have H2 : Hid (cnt (l.take (i + 1)) k = x) := Lib.hid (by rw [Hcn.out, if_neg hq]; rfl)
        clear hq
        go_wp2_with fail
        exact ⟨⟨i + 1, by omega, by go_num, by rw [H2.out], Hw.out⟩, by simp [intOf]; omega⟩
    · have hI : ¬ (i : Int) < (l.length : Int) := by omega
      have htk : l.take i = l := List.take_of_length_le (by omega)
      rw [htk]
      have Hg := Lib.hid hg
      clear hg hw
      go_wp2
      go_ret
      exact ⟨rfl, Hg.out⟩
set_option maxRecDepth 20000 in
set_option maxHeartbeats 800000 in
theorem same_r (W : World) (f t : Int) (n : Nat) (v v' : Value) (l : List Nat) (sp : Bool) (h : Sl W v l) (h' : Sl W v' l) : Calls Try.prog 14 #[dv f t n v sp, dv f t n v' sp] W fun e w' => e = .returned (.bool true) ∧ G0 W w' := by
  have g2 : G0 W ((W.alloc (.cells #[.int .i64 f, .int .i64 t, .int .u64 (n : Int), v, .bool sp] 39)).alloc (.cells #[.int .i64 f, .int .i64 t, .int .u64 (n : Int), v', .bool sp] 39)) := (Gr.alloc _ _ _).trans (Gr.alloc _ _ _)
  have k1 := conv (h.g0 g2)
  have k2 := conv (h'.g0 g2)
  have Hg := Lib.hid g2
  obtain ⟨a1, b1, rfl⟩ : ∃ a cap, v = .slice a l.length cap := by
    rcases h.at' with ⟨rfl, rfl⟩ | ⟨a, cap, rfl, h1, h2, h3⟩
    · exact ⟨_, _, rfl⟩
    · exact ⟨_, _, rfl⟩
  obtain ⟨a2, b2, rfl⟩ : ∃ a cap, v' = .slice a l.length cap := by
    rcases h'.at' with ⟨rfl, rfl⟩ | ⟨a, cap, rfl, h1, h2, h3⟩
    · exact ⟨_, _, rfl⟩
    · exact ⟨_, _, rfl⟩
  clear h h' g2
  go_enter Try.func14, Try.ntmps14
  go_wp2
  go_ret
  exact ⟨by simp, Hg.out⟩
end Go.Proofs.Ytjffhnpoipolfaa
