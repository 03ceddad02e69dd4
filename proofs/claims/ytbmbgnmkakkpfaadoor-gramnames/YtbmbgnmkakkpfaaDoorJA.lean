/-
  Trees in memory, wherever their rows begin.
  All, of any tree.
-/
import Derived.Test.YtbmbgnmkakkpfaaDoorGP
import Derived.Test.YtbmbgnmkakkpfaaDoorGI
set_option linter.unusedVariables false
set_option linter.unusedSimpArgs false
namespace Go.Proofs.YtbmbgnmkakkpfaaDoor
open Go.RowKit Go.Maps
variable {W W' : World}
/-- A row of bytes that only blocks of A hold. -/
def RowBG (A : Nat → Prop) (W : World) (bs : List Int) (v : Value) : Prop :=
  (bs = [] ∧ ∃ a c, v = .slice a 0 c) ∨ ∃ g o cap, v = .slice (some ⟨g, o, none⟩) bs.length cap ∧ A g ∧ ∀ j u, (bs.map (Value.int .u8))[j]? = some u → W.cell? ⟨g, o + j, none⟩ = some u
/-- A row of trees. -/
def RowTG (A : Nat → Prop) (W : World) (vs : List Value) (n : Nat) (v : Value) : Prop :=
  (n = 0 ∧ ∃ a c, v = .slice a 0 c) ∨ ∃ g o cap, v = .slice (some ⟨g, o, none⟩) n cap ∧ A g ∧ ∀ j u, (vs.flatMap cellsOf)[j]? = some u → W.cell? ⟨g, o + j, none⟩ = some u
/-- The value v is the tree, in memory that only blocks of A hold. -/
def RepG (A : Nat → Prop) (W : World) : Tr → Value → Prop :=
  Tr.rec (motive_1 := fun _ => Value → Prop) (motive_2 := fun _ => List Value → Prop)
    (fun k s n b l ih v => ∃ bv lv vs, v = trv k s n bv lv ∧ RowBG A W b bv ∧ RowTG A W vs l.length lv ∧ ih vs)
    (fun vs => vs = []) (fun _ _ h1 h2 vs => ∃ v r, vs = v :: r ∧ h1 v ∧ h2 r)
def RepsG (A : Nat → Prop) (W : World) : List Tr → List Value → Prop :=
  Tr.rec_1 (motive_1 := fun _ => Value → Prop) (motive_2 := fun _ => List Value → Prop)
    (fun k s n b l ih v => ∃ bv lv vs, v = trv k s n bv lv ∧ RowBG A W b bv ∧ RowTG A W vs l.length lv ∧ ih vs)
    (fun vs => vs = []) (fun _ _ h1 h2 vs => ∃ v r, vs = v :: r ∧ h1 v ∧ h2 r)
theorem RepG.mk_eq (A : Nat → Prop) (W : World) (k : Int) (s : ByteArray) (n : Int) (b : List Int) (l : List Tr) (v : Value) : RepG A W (.mk k s n b l) v = ∃ bv lv vs, v = trv k s n bv lv ∧ RowBG A W b bv ∧ RowTG A W vs l.length lv ∧ RepsG A W l vs := rfl
theorem RepsG.cons_eq (A : Nat → Prop) (W : World) (t : Tr) (l : List Tr) (vs : List Value) : RepsG A W (t :: l) vs = ∃ v r, vs = v :: r ∧ RepG A W t v ∧ RepsG A W l r := rfl
theorem RepsG.nil_eq (A : Nat → Prop) (W : World) (vs : List Value) : RepsG A W [] vs = (vs = []) := rfl


theorem cell_eq {W W' : World} {g k : Nat} (h : W'.heap[g]? = W.heap[g]?) : W'.cell? ⟨g, k, none⟩ = W.cell? ⟨g, k, none⟩ := by simp only [World.cell?, h]
theorem RowBG.turn {A A' : Nat → Prop} {W W' : World} (h : Turn A A' W W') {bs : List Int} {v : Value} (k : RowBG A W bs v) : RowBG A' W' bs v := by
  rcases k with k | ⟨g, o, cap, rfl, hg, hc⟩
  · exact .inl k
  · by_cases h0 : bs = []
    · subst h0; exact .inl ⟨rfl, _, _, rfl⟩
    · have hl : 0 < bs.length := List.length_pos_iff.2 h0
      have hx := World.block_lt_of_cell? _ _ (hc 0 _ (by rw [List.getElem?_map, List.getElem?_eq_getElem hl]; rfl))
      obtain ⟨h3, h4⟩ := h g hg hx
      exact .inr ⟨g, o, cap, rfl, h3, fun j u hu => (cell_eq h4).trans (hc j u hu)⟩
theorem RowBG.sv {A : Nat → Prop} {W : World} {bs : List Int} {v : Value} (k : RowBG A W bs v) : ∃ a c, v = .slice a bs.length c := by
  rcases k with ⟨rfl, a, c, rfl⟩ | ⟨g, o, cap, rfl, _⟩
  · exact ⟨_, _, rfl⟩
  · exact ⟨_, _, rfl⟩
theorem RowTG.turn {A A' : Nat → Prop} {W W' : World} (h : Turn A A' W W') {vs : List Value} {n : Nat} {v : Value} (hn : 0 < n → 0 < (vs.flatMap cellsOf).length) (k : RowTG A W vs n v) : RowTG A' W' vs n v := by
  rcases k with k | ⟨g, o, cap, rfl, hg, hc⟩
  · exact .inl k
  · by_cases h0 : n = 0
    · subst h0; exact .inl ⟨rfl, _, _, rfl⟩
    · have hl := hn (by omega)
      have hx := World.block_lt_of_cell? _ _ (hc 0 _ (List.getElem?_eq_getElem hl))
      obtain ⟨h3, h4⟩ := h g hg hx
      exact .inr ⟨g, o, cap, rfl, h3, fun j u hu => (cell_eq h4).trans (hc j u hu)⟩
theorem RepG.agg {A : Nat → Prop} {W : World} {T : Tr} {v : Value} (h : RepG A W T v) : ∃ k s n a1 n1 c1 a2 n2 c2, v = trv k s n (.slice a1 n1 c1) (.slice a2 n2 c2) := by
  cases T with
  | mk k s n bs l =>
    obtain ⟨bv, lv, vs, rfl, k1, k2, k3⟩ := h
    rcases k1 with ⟨_, a, c, rfl⟩ | ⟨g, o, cap, rfl, _⟩ <;> rcases k2 with ⟨_, a', c', rfl⟩ | ⟨g', o', cap', rfl, _⟩
    all_goals exact ⟨_, _, _, _, _, _, _, _, _, rfl⟩
theorem RepsG.cells {A : Nat → Prop} {W : World} : ∀ {l : List Tr} {vs : List Value}, RepsG A W l vs → (vs.flatMap cellsOf).length = l.length * 5
  | [], vs, k => by cases k; rfl
  | t :: l, vs, k => by
    obtain ⟨v', r, rfl, k1, k2⟩ := k
    obtain ⟨_, _, _, _, _, _, _, _, _, rfl⟩ := RepG.agg k1
    rw [List.flatMap_cons, List.length_append, RepsG.cells k2]
    simp [cellsOf]
    omega
theorem RepG.turn {A A' : Nat → Prop} {W W' : World} (h : Turn A A' W W') {T : Tr} {v : Value} (k : RepG A W T v) : RepG A' W' T v :=
  Tr.rec (motive_1 := fun T => ∀ v, RepG A W T v → RepG A' W' T v) (motive_2 := fun l => ∀ vs, RepsG A W l vs → RepsG A' W' l vs)
    (fun t s n bs l ih v k => by
      obtain ⟨bv, lv, vs, rfl, k1, k2, k3⟩ := k
      exact ⟨bv, lv, vs, rfl, k1.turn h, RowTG.turn h (fun hp => by have := RepsG.cells (W := W) k3; omega) k2, ih vs k3⟩)
    (fun _ k => k)
    (fun t l h1 h2 vs k => by
      obtain ⟨v, r, rfl, k1, k2⟩ := k
      exact ⟨v, r, rfl, h1 v k1, h2 r k2⟩) T v k
theorem RepsG.turn {A A' : Nat → Prop} {W W' : World} (h : Turn A A' W W') : ∀ {l : List Tr} {vs : List Value}, RepsG A W l vs → RepsG A' W' l vs
  | [], vs, k => k
  | t :: l, vs, k => by
    obtain ⟨v, r, rfl, k1, k2⟩ := k
    exact ⟨v, r, rfl, RepG.turn h k1, RepsG.turn h k2⟩
theorem RepsG.snoc {A : Nat → Prop} {W : World} {T : Tr} {v : Value} : ∀ {l : List Tr} {vs : List Value}, RepsG A W l vs → RepG A W T v → RepsG A W (l ++ [T]) (vs ++ [v])
  | [], vs, k, h => by cases k; exact ⟨v, [], rfl, h, rfl⟩
  | t :: l, vs, k, h => by
    obtain ⟨v', r, rfl, k1, k2⟩ := k
    exact ⟨v', r ++ [v], rfl, k1, RepsG.snoc k2 h⟩
theorem RepsG.app {A : Nat → Prop} {W : World} {m : List Tr} {us : List Value} (hm : RepsG A W m us) : ∀ {l : List Tr} {vs : List Value}, RepsG A W l vs → RepsG A W (l ++ m) (vs ++ us)
  | [], vs, k => by cases k; exact hm
  | t :: l, vs, k => by
    obtain ⟨v', r, rfl, k1, k2⟩ := k
    exact ⟨v', r ++ us, rfl, k1, RepsG.app hm k2⟩
theorem RepsG.len {A : Nat → Prop} {W : World} : ∀ {l : List Tr} {vs : List Value}, RepsG A W l vs → vs.length = l.length
  | [], vs, k => by cases k; rfl
  | t :: l, vs, k => by
    obtain ⟨v', r, rfl, k1, k2⟩ := k
    simp [RepsG.len k2]
theorem RepsG.one {A : Nat → Prop} {W : World} : ∀ {l : List Tr} {vs : List Value}, RepsG A W l vs → ∀ u ∈ vs.flatMap cellsOf, u.oneCell' = true
  | [], vs, k => by cases k; simp
  | t :: l, vs, k => by
    obtain ⟨v', r, rfl, k1, k2⟩ := k
    obtain ⟨_, _, _, _, _, _, _, _, _, rfl⟩ := RepG.agg k1
    intro u hu
    rw [List.flatMap_cons, List.mem_append] at hu
    rcases hu with hu | hu
    · simp [cellsOf] at hu
      rcases hu with rfl | rfl | rfl | rfl | rfl <;> rfl
    · exact RepsG.one k2 u hu
/-- More trees: the row has grown, in its place or elsewhere. -/
theorem RepsG.at {A : Nat → Prop} : ∀ {l : List Tr} {vs : List Value}, RepsG A W l vs → ∀ (i : Nat) (T : Tr), l[i]? = some T → ∃ v', RepG A W T v' ∧ ∀ j u, (cellsOf v')[j]? = some u → (vs.flatMap cellsOf)[i * 5 + j]? = some u
  | [], vs, k, i, T, h => by simp at h
  | t :: l, vs, k, 0, T, h => by
    obtain ⟨v', r, rfl, k1, k2⟩ := k
    simp at h; subst h
    refine ⟨v', k1, fun j u hj => ?_⟩
    rw [List.flatMap_cons, Nat.zero_mul, Nat.zero_add, List.getElem?_append_left (List.getElem?_eq_some_iff.1 hj).1]
    exact hj
  | t :: l, vs, k, i + 1, T, h => by
    obtain ⟨v', r, rfl, k1, k2⟩ := k
    obtain ⟨v2, h1, h2⟩ := RepsG.at k2 i T (by simpa using h)
    refine ⟨v2, h1, fun j u hj => ?_⟩
    obtain ⟨_, _, _, _, _, _, _, _, _, rfl⟩ := RepG.agg k1
    rw [List.flatMap_cons, List.getElem?_append_right (by simp [cellsOf]; omega), ← h2 j u hj]
    congr 1
    simp [cellsOf]
    omega

theorem RowBG.sb {A : Nat → Prop} {bs : List Int} {v : Value} (h : RowBG A W bs v) : Sb W v bs := by
  rcases h with ⟨rfl, a, c, rfl⟩ | ⟨g, o, cap, rfl, _, hc⟩
  · cases a with
    | none => exact .inl ⟨c, rfl, rfl⟩
    | some a => exact .inr ⟨a, c, rfl, fun j u h => by simp [u8s] at h⟩
  · refine .inr ⟨_, cap, rfl, fun j u h => ?_⟩
    have hadd : (⟨g, o, none⟩ : Addr).add j = ⟨g, o + j, none⟩ := by unfold Addr.add; split <;> simp_all
    rw [hadd]
    exact hc j u h
/-- A tree whose rows begin their blocks. -/
theorem Rep.gen {A : Nat → Prop} {W : World} {T : Tr} {v : Value} (k : Rep A W T v) : RepG A W T v :=
  Tr.rec (motive_1 := fun T => ∀ v, Rep A W T v → RepG A W T v) (motive_2 := fun l => ∀ vs, Reps A W l vs → RepsG A W l vs)
    (fun t s n bs l ih v k => by
      obtain ⟨bv, lv, vs, rfl, k1, k2, k3⟩ := k
      refine ⟨bv, lv, vs, rfl, ?_, ?_, ih vs k3⟩
      · rcases k1 with k1 | ⟨g, cap, cur, rfl, hg, hc, h1, h2⟩
        · exact .inl k1
        · refine .inr ⟨g, 0, cap, rfl, hg, fun j u hu => ?_⟩
          have hj : j < bs.length := by have := (List.getElem?_eq_some_iff.1 hu).1; simpa using this
          rw [← h2, List.getElem?_take_of_lt hj] at hu
          rw [Nat.zero_add]
          simp only [World.cell?, hc]
          simpa using hu
      · rcases k2 with k2 | ⟨g, cap, cur, rfl, hg, hc, h1, h2⟩
        · exact .inl k2
        · refine .inr ⟨g, 0, cap, rfl, hg, fun j u hu => ?_⟩
          have hj : j < l.length * 5 := by have := (List.getElem?_eq_some_iff.1 hu).1; rw [Reps.cells (W := W) k3] at this; exact this
          rw [← h2, List.getElem?_take_of_lt hj] at hu
          rw [Nat.zero_add]
          simp only [World.cell?, hc]
          simpa using hu)
    (fun _ k => k)
    (fun t l h1 h2 vs k => by
      obtain ⟨v, r, rfl, k1, k2⟩ := k
      exact ⟨v, r, rfl, h1 v k1, h2 r k2⟩) T v k
theorem RepG.parts {A : Nat → Prop} {k : Int} {s : ByteArray} {n : Int} {b : List Int} {l : List Tr} {v : Value} (h : RepG A W (.mk k s n b l) v) :
    ∃ ba bc la lc, v = trv k s n (.slice ba b.length bc) (.slice la l.length lc) ∧ ∀ i T, l[i]? = some T → ∃ g o v', la = some ⟨g, o, none⟩ ∧ g < W.heap.size ∧ A g ∧ RepG A W T v' ∧ ∀ j u, (cellsOf v')[j]? = some u → W.cell? ⟨g, o + i * 5 + j, none⟩ = some u := by
  obtain ⟨bv, lv, vs, rfl, hb, hr, hreps⟩ := h
  obtain ⟨ba, bc, rfl⟩ := hb.sv
  rcases hr with ⟨h0, a, c, rfl⟩ | ⟨g, o, cap, rfl, hg, hc⟩
  · obtain rfl : l = [] := List.eq_nil_of_length_eq_zero h0
    exact ⟨ba, bc, a, c, rfl, fun i T hi => by simp at hi⟩
  · refine ⟨ba, bc, _, cap, rfl, fun i T hi => ?_⟩
    obtain ⟨v', h1, h2⟩ := RepsG.at (W := W) hreps i T hi
    have hcell : ∀ j u, (cellsOf v')[j]? = some u → W.cell? ⟨g, o + i * 5 + j, none⟩ = some u := fun j u hu => by rw [Nat.add_assoc]; exact hc _ _ (h2 j u hu)
    refine ⟨g, o, v', rfl, ?_, hg, h1, hcell⟩
    obtain ⟨_, _, _, _, _, _, _, _, _, rfl⟩ := h1.agg
    exact World.block_lt_of_cell? _ _ (hcell 0 _ rfl)
end Go.Proofs.YtbmbgnmkakkpfaaDoor

namespace Go.Proofs.YtbmbgnmkakkpfaaDoor
open Go.RowKit Go.Maps
variable {W W' : World}
/-- What All answers of a tree. -/
def AllOkG (T : Tr) : Prop := ∀ (W : World) (N : Nat) (v : Value) (m : Nat), RepG (fun k => k < N) W T v → N ≤ W.heap.size → 1 ≤ m → m ≤ 30000 →
  Calls Tryd.prog 14 #[v, .int .i64 (m : Int)] W fun e w' => ∃ v' us, e = .returned v' ∧ w'.ownsRow W.heap.size 25 5 v' ((preL [T]).take m).length (us.flatMap cellsOf) ∧ RepsG (fun k => k < N) w' ((preL [T]).take m) us ∧ Gr (fun _ => False) W w'
set_option maxRecDepth 100000 in
set_option maxHeartbeats 1600000 in
theorem allg_node (k : Int) (s : ByteArray) (n : Int) (b : List Int) (l : List Tr) (ih : ∀ T ∈ l, AllOkG T) : AllOkG (.mk k s n b l) := by
  intro W N v m hRep hN hm1 hm2
  obtain ⟨ba, bc, la, lc, rfl, hk⟩ := hRep.parts
  obtain ⟨i0, hi0, hzz, hz1, hz2⟩ := info_parts info25
  have hmI : (m : Int) ≤ 30000 := by omega
  have hmP : ¬ (m : Int) ≤ 0 := by omega
  have hmD : decide ((m : Int) ≤ 0) = false := by simp; omega
  have e0' : (preL [Tr.mk k s n b l]).take m = toldI (.mk k s n b l) l m l.length := by
    unfold toldI
    rw [preL_cons, List.take_length, preL_nil, List.append_nil]
  rw [e0']
  have hR0 : RepsG (fun z => z < N) W (toldI (.mk k s n b l) l m 0) [trv k s n (.slice ba b.length bc) (.slice la l.length lc)] := by
    have : toldI (.mk k s n b l) l m 0 = [.mk k s n b l] := by
      unfold toldI
      rw [List.take_zero, preL_nil]
      exact List.take_of_length_le (by simpa using hm1)
    rw [this]
    exact ⟨_, [], rfl, hRep, rfl⟩
  have hlen0 : Hid ((toldI (.mk k s n b l) l m 0).length = 1) := by
    show _ = 1
    unfold toldI
    rw [List.take_zero, preL_nil, List.length_take]
    simp; omega
  have hlm := toldI_le (.mk k s n b l) l m
  have hge : ∀ i : Nat, i ≤ l.length → (toldI (.mk k s n b l) l m i).length < m → i + 1 ≤ (toldI (.mk k s n b l) l m i).length := fun i h1 h2 => toldI_ge h1 h2
  have hst : ∀ (i : Nat) (U : Tr), l[i]? = some U → (toldI (.mk k s n b l) l m i).length < m → toldI (.mk k s n b l) l m (i + 1) = toldI (.mk k s n b l) l m i ++ (preL [U]).take (m - (toldI (.mk k s n b l) l m i).length) := fun i U h1 h2 => toldI_step h1 h2
  have hen : ∀ i : Nat, (l.length ≤ i ∨ m ≤ (toldI (.mk k s n b l) l m i).length) → toldI (.mk k s n b l) l m i = (Tr.mk k s n b l :: preL l).take m := fun i h => toldI_end h
  generalize toldI (.mk k s n b l) l m = tI at *
  have gB := Gr.alloc W (.cells #[.int .i64 k, .string s, .int .i64 n, .slice ba b.length bc, .slice la l.length lc] 25) (fun _ => False)
  have hB := heap_alloc_new W (.cells #[.int .i64 k, .string s, .int .i64 n, .slice ba b.length bc, .slice la l.length lc] 25)
  have hzB : (W.alloc (.cells #[.int .i64 k, .string s, .int .i64 n, .slice ba b.length bc, .slice la l.length lc] 25)).heap.size = W.heap.size + 1 := by simp
  have hrow1 := fun W1 (hb : W.heap.size + 1 ≤ W1.heap.size) => World.ownsRow_lit (base := W.heap.size + 1) (e := 25) (size := 5) W1 #[.int .i64 k, .string s, .int .i64 n, .slice ba b.length bc, .slice la l.length lc] 1 hb (by unfold maxLen; omega) rfl
  go_enter Tryd.func14, Tryd.ntmps14
  go_wp2_with fail
  generalize W.alloc _ = WB at gB hB hzB ⊢
  have hr1 := hrow1 WB (by omega)
  have gR := Gr.alloc WB (.cells #[.int .i64 k, .string s, .int .i64 n, .slice ba b.length bc, .slice la l.length lc] 25) (fun _ => False)
  rw [hzB] at hr1
  generalize WB.alloc _ = WR at hr1 gR ⊢
  have hB1 := gR.keep hB (fun e => e)
  obtain ⟨tb, htb⟩ : ∃ tb, W.heap.size = tb := ⟨_, rfl⟩
  rw [htb] at hB1 hr1 ⊢
  have gW := gB.trans gR
  have hRR : RepsG (fun z => z < N) WR (tI 0) _ := hR0.turn (fun z hz hl => ⟨hz, gW.block z hl (fun e => e)⟩)
  have hk' : ∀ (i : Nat) (T : Tr), l[i]? = some T → ∃ g o v', la = some ⟨g, o, none⟩ ∧ g < W.heap.size ∧ g < N ∧ RepG (fun z => z < N) W T v' ∧ ∀ j u, (cellsOf v')[j]? = some u → W.cell? ⟨g, o + i * 5 + j, none⟩ = some u := hk
  replace hk' := Lib.hid hk'
  replace ih := Lib.hid ih
  replace hlm := Lib.hid hlm
  replace hge := Lib.hid hge
  replace hst := Lib.hid hst
  replace hen := Lib.hid hen
  replace hm1 := Lib.hid hm1
  replace hm2 := Lib.hid hm2
  clear hk hR0 hrow1 gB gR hB hzB e0'
  go_loopw [5, 6] (fun u5 u6 wr => ∃ (i : Nat) (us : List Value), i ≤ l.length ∧ u6 = .int .i64 (i : Int) ∧ wr.ownsRow (tb + 1) 25 5 u5 (tI i).length (us.flatMap cellsOf) ∧ Hid (RepsG (fun z => z < N) wr (tI i) us) ∧ wr.heap[tb]? = some (.cells #[.int .i64 k, .string s, .int .i64 n, .slice ba b.length bc, .slice la l.length lc] 25 (0, 0)) ∧ Gr (fun _ => False) W wr) (fun _ u6 _ => l.length - (intOf u6).toNat)
  case atStart => exact ⟨0, _, Nat.zero_le _, rfl, by rw [hlen0.out]; exact hr1, hRR, hB1, gW⟩
  case round =>
    obtain ⟨i, us, hi, rfl, hrow, hReps, hBr, hG⟩ := hrel
    obtain ⟨⟨m0, m1', m2, m3, m4⟩, _⟩ := five_cells hBr
    obtain ⟨oa, oc, rfl⟩ := ownsRow_sv hrow
    have htw : tb < wr.heap.size := (Array.getElem?_eq_some_iff.1 hBr).1
    by_cases hlt : i < l.length
    · have h1 : (i : Int) < (l.length : Int) := by omega
      by_cases hol : (tI i).length < m
      · have h2 : ((tI i).length : Int) < (m : Int) := by omega
        have hiI : (i : Int) ≤ 30000 := by have := hge.out i hi hol; omega
        have hTi : l[i]? = some l[i] := List.getElem?_eq_getElem hlt
        obtain ⟨g, o, v', rfl, hgl, hgN, hRi, hci⟩ := hk'.out i _ hTi
        have hAi := ih.out l[i] (List.getElem_mem hlt)
        have Hst := Lib.hid (hst.out i _ hTi hol)
        generalize l[i] = U at hRi hAi Hst
        obtain ⟨tk, tt, tn, a1, n1, c1, a2, n2, c2, rfl⟩ := hRi.agg
        have k0 : wr.cell? ⟨g, o + i * 5, none⟩ = some (.int .i64 tk) := cell_gr (hci 0 _ rfl) hG (fun e => e)
        have k1 := cell_gr (hci 1 _ rfl) hG (fun e => e)
        have k2 := cell_gr (hci 2 _ rfl) hG (fun e => e)
        have k3 := cell_gr (hci 3 _ rfl) hG (fun e => e)
        have k4 := cell_gr (hci 4 _ rfl) hG (fun e => e)
        have hRi' : RepG (fun z => z < N) wr U (trv tk tt tn (.slice a1 n1 c1) (.slice a2 n2 c2)) := hRi.turn (fun z hz hl => ⟨hz, hG.block z hl (fun e => e)⟩)
        have hsG := hG.size
        have hcall := hAi wr N _ (m - (tI i).length) hRi' (by omega) (by omega) (by have := hm2.out; omega)
        have hsub : ((m - (tI i).length : Nat) : Int) = (m : Int) - ((tI i).length : Int) := by omega
        rw [hsub] at hcall
        have hpos : Hid (0 < ((preL [U]).take (m - (tI i).length)).length) := by
          show 0 < _
          have := preL_pos U
          rw [List.length_take]; omega
        have hble : Hid (((preL [U]).take (m - (tI i).length)).length + (tI i).length ≤ 30000) := by
          show _ ≤ _
          have := hm2.out
          rw [List.length_take]; omega
        generalize (preL [U]).take (m - (tI i).length) = Y at hcall Hst hpos hble
        replace hcall := Lib.hid hcall
        have hgw : g < wr.heap.size := by omega
        have hTt : Hid (∀ z, z < N → z < tb + 1) := fun z hz => by omega
        clear hAi hRi hci hTi hsub
        go_wp2_with fail
        refine hcall.out.mono ?_
        rintro e w4 ⟨vY, ys, rfl, rowY, repY, g4⟩
        obtain ⟨gY, cY, rfl, hcY⟩ := row_cells rowY hpos.out
        have hrow4 := ownsRow_gr hrow g4 (fun _ _ e => e)
        have hcl := repY.cells
        have hone := repY.one
        have hs4 := g4.size
        have hB4 := g4.keep hBr (fun e => e)
        go_wp2_with (first
          | (at_builtin; refine wpList_own2 _ rfl 23 _ _ rfl (tb + 1) 25 i0 (trv 0 e0 0 nl nl) 5 80 Tryd.underlying23 hi0 hzz hz1 hz2 rfl (by decide) (.slice oa (tI i).length oc) (tI i).length (us.flatMap cellsOf) ⟨gY, 0, none⟩ Y.length cY (ys.flatMap cellsOf) rfl rfl hrow4 hcl hcY hone (by unfold maxLen; have := hble.out; omega) (by have := hble.out; omega) (by omega) ?_; intro v5 w5 hrow5 hgr5 hloc5; obtain ⟨a5, cap5, rfl⟩ := ownsRow_sv hrow5))
        have G5 : Gr (fun z => tb + 1 ≤ z) w4 w5 := Gr.of_grown hgr5 (fun z e => (ownsRow_lt hrow4 z e).1)
        have GW : Gr (fun _ => False) W w5 := (hG.trans g4).trans' G5 (fun k hk e => by omega)
        have hB5 := G5.keep hB4 (by omega)
        have R1 : RepsG (fun z => z < N) w5 (tI i) us := hReps.out.turn (fun z hz hl => ⟨hz, (G5.block z (by omega) (by omega)).trans (g4.block z hl (fun e => e))⟩)
        have R2 : RepsG (fun z => z < N) w5 Y ys := repY.turn (fun z hz hl => ⟨hz, G5.block z hl (by omega)⟩)
        have R5 : Hid (RepsG (fun z => z < N) w5 (tI (i + 1)) (us ++ ys)) := by show RepsG _ _ _ _; rw [Hst.out]; exact R2.app R1
        have hrow6 : w5.ownsRow (tb + 1) 25 5 (.slice a5 ((tI i).length + Y.length) cap5) (tI (i + 1)).length ((us ++ ys).flatMap cellsOf) := by
          rw [Hst.out, List.flatMap_append, List.length_append]; exact hrow5
        clear hrow5 hgr5 hloc5 hcl hone hcY rowY repY hrow4 R1 R2 hB4 k0 k1 k2 k3 k4 m0 m1' m2 m3 m4 hcall
        go_wp2_with fail
        exact ⟨⟨i + 1, us ++ ys, hlt, by go_num, hrow6, R5, hB5, GW⟩, by simp [intOf]; omega⟩
      · have h2 : decide (((tI i).length : Int) < (m : Int)) = false := by simp; omega
        have e : Hid (tI i = tI l.length) := (hen.out i (.inr (by omega))).trans (hen.out l.length (.inl (Nat.le_refl _))).symm
        go_wp2_with fail
        go_ret
        refine ⟨_, us, rfl, ?_, ?_, hG⟩
        · rw [← e.out]; exact ownsRow_base hrow (by omega)
        · rw [← e.out]; exact hReps.out
    · have h1 : decide ((i : Int) < (l.length : Int)) = false := by simp; omega
      obtain rfl : i = l.length := by omega
      go_wp2_with fail
      go_ret
      exact ⟨_, us, rfl, ownsRow_base hrow (by omega), hReps.out, hG⟩
theorem allg_c (T : Tr) : AllOkG T :=
  Tr.rec (motive_1 := fun T => AllOkG T) (motive_2 := fun l => ∀ T ∈ l, AllOkG T)
    (fun k s n b l ih => allg_node k s n b l ih) (fun T h => by cases h)
    (fun T l h1 h2 U hU => by
      rcases List.mem_cons.1 hU with rfl | hU
      · exact h1
      · exact h2 U hU) T
end Go.Proofs.YtbmbgnmkakkpfaaDoor
