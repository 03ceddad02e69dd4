/-
  Carried over from another seat of ours (JA).
-/
import Derived.Test.YtjedbfbolifjjaaGreatDoorGN
import Derived.Test.YtjedbfbolifjjaaGreatDoorGH
set_option linter.unusedVariables false
set_option linter.unusedSimpArgs false
namespace Go.Proofs.YtjedbfbolifjjaaGreatDoor
open Go.RowKit Go.Maps
variable {W W' : World}
/-- A row of bytes that only blocks of A hold. -/
def RowBG (A : Nat → Prop) (W : World) (bs : List Int) (v : Value) : Prop :=
 (bs = [] ∧ ∃ a c, v = .slice a 0 c) ∨ ∃ g o cap, v = .slice (some ⟨g, o, none⟩) bs.length cap ∧ A g ∧ ∀ j u, (bs.map (Value.int .u8))[j]? = some u → W.cell? ⟨g, o + j, none⟩ = some u
/-- A row of trees. -/
def RowTG (A : Nat → Prop) (W : World) (vs : List Value) (n : Nat) (v : Value) : Prop :=
 (n = 0 ∧ ∃ a c, v = .slice a 0 c) ∨ ∃ g o cap, v = .slice (some ⟨g, o, none⟩) n cap ∧ A g ∧ n ≤ cap ∧ ∀ j u, (vs.flatMap cellsOf)[j]? = some u → W.cell? ⟨g, o + j, none⟩ = some u
/-- The value v is the tree, in memory that only blocks of A hold. -/
def RepG (A : Nat → Prop) (W : World) : Tr → Value → Prop :=
 Tr.rec (motive_1 := fun _ => Value → Prop) (motive_2 := fun _ => List Value → Prop)
  (fun k s n b l ih v => ∃ bv lv vs, v = trv k s n bv lv ∧ RowBG A W b bv ∧ RowTG A W vs l.length lv ∧ ih vs)
  (fun vs => vs = []) (fun _ _ h1 h2 vs => ∃ v r, vs = v :: r ∧ h1 v ∧ h2 r)
def RepsG (A : Nat → Prop) (W : World) : List Tr → List Value → Prop :=
 Tr.rec_1 (motive_1 := fun _ => Value → Prop) (motive_2 := fun _ => List Value → Prop)
  (fun k s n b l ih v => ∃ bv lv vs, v = trv k s n bv lv ∧ RowBG A W b bv ∧ RowTG A W vs l.length lv ∧ ih vs)
  (fun vs => vs = []) (fun _ _ h1 h2 vs => ∃ v r, vs = v :: r ∧ h1 v ∧ h2 r)
theorem cell_eq {W W' : World} {g k : Nat} (h : W'.heap[g]? = W.heap[g]?) : W'.cell? ⟨g, k, none⟩ = W.cell? ⟨g, k, none⟩ := by simp only [World.cell?, h]
theorem RowBG.turn {A A' : Nat → Prop} {W W' : World} (h : Turn A A' W W') {bs : List Int} {v : Value} (k : RowBG A W bs v) : RowBG A' W' bs v := by
 rcases k with k | ⟨g, o, cap, rfl, hg, hc⟩
 · exact .inl k
 ·
  by_cases h0 : bs = []
  · subst h0; exact .inl ⟨rfl, _, _, rfl⟩
  · have hl : 0 < bs.length := List.length_pos_iff.2 h0
    have hx := World.block_lt_of_cell? _ _ (hc 0 _ (by rw [List.getElem?_map, List.getElem?_eq_getElem hl]; rfl))
    obtain ⟨h3, h4⟩ := h g hg hx
    exact .inr ⟨g, o, cap, rfl, h3, fun j u hu => (cell_eq h4).trans (hc j u hu)⟩
theorem RowBG.sv {A : Nat → Prop} {W : World} {bs : List Int} {v : Value} (k : RowBG A W bs v) : ∃ a c, v = .slice a bs.length c := by
 rcases k with ⟨rfl, a, c, rfl⟩ | ⟨g, o, cap, rfl, _⟩
 · exact ⟨_, _, rfl⟩
 · exact ⟨_, _, rfl⟩
theorem RowTG.turn {A A' : Nat → Prop} {W W' : World} (h : Turn A A' W W') {vs : List Value} {n : Nat} {v : Value} (hn : 0 < n → 0 < (vs.flatMap cellsOf).length) (k : RowTG A W vs n v) : RowTG A' W' vs n v := by
 rcases k with k | ⟨g, o, cap, rfl, hg, hcap, hc⟩
 · exact .inl k
 ·
  by_cases h0 : n = 0
  · subst h0; exact .inl ⟨rfl, _, _, rfl⟩
  · have hl := hn (by omega)
    have hx := World.block_lt_of_cell? _ _ (hc 0 _ (List.getElem?_eq_getElem hl))
    obtain ⟨h3, h4⟩ := h g hg hx
    exact .inr ⟨g, o, cap, rfl, h3, hcap, fun j u hu => (cell_eq h4).trans (hc j u hu)⟩
theorem RepG.agg {A : Nat → Prop} {W : World} {T : Tr} {v : Value} (h : RepG A W T v) : ∃ k s n a1 n1 c1 a2 n2 c2, v = trv k s n (.slice a1 n1 c1) (.slice a2 n2 c2) := by
 cases T with
 | mk k s n bs l =>
  obtain ⟨bv, lv, vs, rfl, k1, k2, k3⟩ := h
  rcases k1 with ⟨_, a, c, rfl⟩ | ⟨g, o, cap, rfl, _⟩ <;> rcases k2 with ⟨_, a', c', rfl⟩ | ⟨g', o', cap', rfl, _⟩
  all_goals exact ⟨_, _, _, _, _, _, _, _, _, rfl⟩
theorem RepsG.cells {A : Nat → Prop} {W : World} : ∀ {l : List Tr} {vs : List Value}, RepsG A W l vs → (vs.flatMap cellsOf).length = l.length * 5
 | [], vs, k => by cases k; rfl
 | t :: l, vs, k => by
  obtain ⟨v', r, rfl, k1, k2⟩ := k
  obtain ⟨_, _, _, _, _, _, _, _, _, rfl⟩ := RepG.agg k1
  rw [List.flatMap_cons, List.length_append, RepsG.cells k2]
  simp [cellsOf]
  omega
theorem RepG.turn {A A' : Nat → Prop} {W W' : World} (h : Turn A A' W W') {T : Tr} {v : Value} (k : RepG A W T v) : RepG A' W' T v :=
 Tr.rec (motive_1 := fun T => ∀ v, RepG A W T v → RepG A' W' T v) (motive_2 := fun l => ∀ vs, RepsG A W l vs → RepsG A' W' l vs)
  (fun t s n bs l ih v k => by
    obtain ⟨bv, lv, vs, rfl, k1, k2, k3⟩ := k
    exact ⟨bv, lv, vs, rfl, k1.turn h, RowTG.turn h (fun hp => by have := RepsG.cells (W := W) k3; omega) k2, ih vs k3⟩)
  (fun _ k => k)
  (fun t l h1 h2 vs k => by
    obtain ⟨v, r, rfl, k1, k2⟩ := k
    exact ⟨v, r, rfl, h1 v k1, h2 r k2⟩) T v k
theorem RepsG.turn {A A' : Nat → Prop} {W W' : World} (h : Turn A A' W W') : ∀ {l : List Tr} {vs : List Value}, RepsG A W l vs → RepsG A' W' l vs
 | [], vs, k => k
 | t :: l, vs, k => by
  obtain ⟨v, r, rfl, k1, k2⟩ := k
  exact ⟨v, r, rfl, RepG.turn h k1, RepsG.turn h k2⟩
theorem RepsG.snoc {A : Nat → Prop} {W : World} {T : Tr} {v : Value} : ∀ {l : List Tr} {vs : List Value}, RepsG A W l vs → RepG A W T v → RepsG A W (l ++ [T]) (vs ++ [v])
 | [], vs, k, h => by cases k; exact ⟨v, [], rfl, h, rfl⟩
 | t :: l, vs, k, h => by
  obtain ⟨v', r, rfl, k1, k2⟩ := k
  exact ⟨v', r ++ [v], rfl, k1, RepsG.snoc k2 h⟩
theorem RepsG.app {A : Nat → Prop} {W : World} {m : List Tr} {us : List Value} (hm : RepsG A W m us) : ∀ {l : List Tr} {vs : List Value}, RepsG A W l vs → RepsG A W (l ++ m) (vs ++ us)
 | [], vs, k => by cases k; exact hm
 | t :: l, vs, k => by
  obtain ⟨v', r, rfl, k1, k2⟩ := k
  exact ⟨v', r ++ us, rfl, k1, RepsG.app hm k2⟩
theorem RepsG.len {A : Nat → Prop} {W : World} : ∀ {l : List Tr} {vs : List Value}, RepsG A W l vs → vs.length = l.length
 | [], vs, k => by cases k; rfl
 | t :: l, vs, k => by
  obtain ⟨v', r, rfl, k1, k2⟩ := k
  simp [RepsG.len k2]
theorem RepsG.one {A : Nat → Prop} {W : World} : ∀ {l : List Tr} {vs : List Value}, RepsG A W l vs → ∀ u ∈ vs.flatMap cellsOf, u.oneCell' = true
 | [], vs, k => by cases k; simp
 | t :: l, vs, k => by
  obtain ⟨v', r, rfl, k1, k2⟩ := k
  obtain ⟨_, _, _, _, _, _, _, _, _, rfl⟩ := RepG.agg k1
  intro u hu
  rw [List.flatMap_cons, List.mem_append] at hu
  rcases hu with hu | hu
  · simp [cellsOf] at hu
    rcases hu with rfl | rfl | rfl | rfl | rfl <;> rfl
  · exact RepsG.one k2 u hu
/-- More trees: the row has grown, in its place or elsewhere. -/
theorem RepsG.at {A : Nat → Prop} : ∀ {l : List Tr} {vs : List Value}, RepsG A W l vs → ∀ (i : Nat) (T : Tr), l[i]? = some T → ∃ v', RepG A W T v' ∧ ∀ j u, (cellsOf v')[j]? = some u → (vs.flatMap cellsOf)[i * 5 + j]? = some u
 | [], vs, k, i, T, h => by simp at h
 | t :: l, vs, k, 0, T, h => by
  obtain ⟨v', r, rfl, k1, k2⟩ := k
  simp at h; subst h
  refine ⟨v', k1, fun j u hj => ?_⟩
  rw [List.flatMap_cons, Nat.zero_mul, Nat.zero_add, List.getElem?_append_left (List.getElem?_eq_some_iff.1 hj).1]
  exact hj
 | t :: l, vs, k, i + 1, T, h => by
  obtain ⟨v', r, rfl, k1, k2⟩ := k
  obtain ⟨v2, h1, h2⟩ := RepsG.at k2 i T (by simpa using h)
  refine ⟨v2, h1, fun j u hj => ?_⟩
  obtain ⟨_, _, _, _, _, _, _, _, _, rfl⟩ := RepG.agg k1
  rw [List.flatMap_cons, List.getElem?_append_right (by simp [cellsOf]; omega), ← h2 j u hj]
  congr 1
  simp [cellsOf]
  omega

theorem RowBG.sb {A : Nat → Prop} {bs : List Int} {v : Value} (h : RowBG A W bs v) : Sb W v bs := by
 rcases h with ⟨rfl, a, c, rfl⟩ | ⟨g, o, cap, rfl, _, hc⟩
 · cases a with
   | none => exact .inl ⟨c, rfl, rfl⟩
   | some a => exact .inr ⟨a, c, rfl, fun j u h => by simp [u8s] at h⟩
 · refine .inr ⟨_, cap, rfl, fun j u h => ?_⟩
   have hadd : (⟨g, o, none⟩ : Addr).add j = ⟨g, o + j, none⟩ := by unfold Addr.add; split <;> simp_all
   rw [hadd]
   exact hc j u h
/-- A tree whose rows begin their blocks. -/
theorem Rep.gen {A : Nat → Prop} {W : World} {T : Tr} {v : Value} (k : Rep A W T v) : RepG A W T v :=
 Tr.rec (motive_1 := fun T => ∀ v, Rep A W T v → RepG A W T v) (motive_2 := fun l => ∀ vs, Reps A W l vs → RepsG A W l vs)
  (fun t s n bs l ih v k => by
    obtain ⟨bv, lv, vs, rfl, k1, k2, k3⟩ := k
    refine ⟨bv, lv, vs, rfl, ?_, ?_, ih vs k3⟩
    ·
     rcases k1 with k1 | ⟨g, cap, cur, rfl, hg, hc, h1, h2⟩
     · exact .inl k1
     · refine .inr ⟨g, 0, cap, rfl, hg, fun j u hu => ?_⟩
       have hj : j < bs.length := by have := (List.getElem?_eq_some_iff.1 hu).1; simpa using this
       rw [← h2, List.getElem?_take_of_lt hj] at hu
       rw [Nat.zero_add]
       simp only [World.cell?, hc]
       simpa using hu
    ·
     rcases k2 with k2 | ⟨g, cap, cur, rfl, hg, hc, h1, h2⟩
     · exact .inl k2
     · refine .inr ⟨g, 0, cap, rfl, hg, h1, fun j u hu => ?_⟩
       have hj : j < l.length * 5 := by have := (List.getElem?_eq_some_iff.1 hu).1; rw [Reps.cells (W := W) k3] at this; exact this
       rw [← h2, List.getElem?_take_of_lt hj] at hu
       rw [Nat.zero_add]
       simp only [World.cell?, hc]
       simpa using hu)
  (fun _ k => k)
  (fun t l h1 h2 vs k => by
    obtain ⟨v, r, rfl, k1, k2⟩ := k
    exact ⟨v, r, rfl, h1 v k1, h2 r k2⟩) T v k
theorem RepG.parts {A : Nat → Prop} {k : Int} {s : ByteArray} {n : Int} {b : List Int} {l : List Tr} {v : Value} (h : RepG A W (.mk k s n b l) v) :
 ∃ ba bc la lc, v = trv k s n (.slice ba b.length bc) (.slice la l.length lc) ∧ ∀ i T, l[i]? = some T → ∃ g o v', la = some ⟨g, o, none⟩ ∧ g < W.heap.size ∧ A g ∧ RepG A W T v' ∧ ∀ j u, (cellsOf v')[j]? = some u → W.cell? ⟨g, o + i * 5 + j, none⟩ = some u := by
 obtain ⟨bv, lv, vs, rfl, hb, hr, hreps⟩ := h
 obtain ⟨ba, bc, rfl⟩ := hb.sv
 rcases hr with ⟨h0, a, c, rfl⟩ | ⟨g, o, cap, rfl, hg, hcap, hc⟩
 · obtain rfl : l = [] := List.eq_nil_of_length_eq_zero h0
   exact ⟨ba, bc, a, c, rfl, fun i T hi => by simp at hi⟩
 ·
  refine ⟨ba, bc, _, cap, rfl, fun i T hi => ?_⟩
  obtain ⟨v', h1, h2⟩ := RepsG.at (W := W) hreps i T hi
  have hcell : ∀ j u, (cellsOf v')[j]? = some u → W.cell? ⟨g, o + i * 5 + j, none⟩ = some u := fun j u hu => by rw [Nat.add_assoc]; exact hc _ _ (h2 j u hu)
  refine ⟨g, o, v', rfl, ?_, hg, h1, hcell⟩
  obtain ⟨_, _, _, _, _, _, _, _, _, rfl⟩ := h1.agg
  exact World.block_lt_of_cell? _ _ (hcell 0 _ rfl)
theorem RepG.cap {A : Nat → Prop} {k : Int} {s : ByteArray} {n : Int} {b : List Int} {l : List Tr} {k' : Int} {s' : ByteArray} {n' : Int} {bv : Value} {la : Option Addr} {m lc : Nat} (h : RepG A W (.mk k s n b l) (trv k' s' n' bv (.slice la m lc))) : m ≤ lc := by
 obtain ⟨bv', lv, vs, e, hb, hr, hreps⟩ := h
 simp only [trv, Value.agg.injEq, Array.mk.injEq, List.cons.injEq, and_true] at e
 obtain ⟨_, _, _, _, rfl⟩ := e
 rcases hr with ⟨h0, a, c, e⟩ | ⟨g, o, cap, e, hg, hcap, hc⟩
 · cases e; exact Nat.zero_le _
 · cases e; exact hcap
end Go.Proofs.YtjedbfbolifjjaaGreatDoor
