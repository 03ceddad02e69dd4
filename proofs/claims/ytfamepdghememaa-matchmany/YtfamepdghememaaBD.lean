/-
  Carried over from another seat of ours (BD).
-/
import Derived.Test.YtfamepdghememaaBB
set_option linter.unusedVariables false
set_option linter.unusedSimpArgs false
namespace Go.Proofs.Ytfamepdghememaa
open Go.RowKit Go.Maps Go.Shelf
attribute [local go_sem] Oper.semAt_some

/-- What small asks of each part, the size so far being z. -/
def Pm (d : Int) (T : Tm) (z : Nat) : Prop := d ≤ 24 ∧ z + 1 + lenB T ≤ 4096
/-- small's own blocks. -/
structure Sm (W : World) (g o : Nat) (z : Nat) (X : World) : Prop where
  r1 : X.heap[W.heap.size]? = some (.cells #[.bool false] 4 (0, 0))
  size : X.heap[W.heap.size + 1]? = some (.cells #[.int .i64 (z : Int)] 3 (0, 0))
  at_ : X.heap[W.heap.size + 2]? = some (.cells #[ptr g o] 53 (0, 0))
  deep : X.heap[W.heap.size + 3]? = some (.cells #[.int .i64 1] 3 (0, 0))
  gr : Gr (fun _ => False) W X
theorem Sm.turn {S : Nat → Prop} {W : World} {g o : Nat} {z : Nat} {X X' : World} (h : Sm W g o z X) (t : Gr S X X') (hS : ∀ i, S i → W.heap.size + 3 < i) : Sm W g o z X' :=
  ⟨t.keep h.r1 (fun e => by have := hS _ e; omega), t.keep h.size (fun e => by have := hS _ e; omega), t.keep h.at_ (fun e => by have := hS _ e; omega), t.keep h.deep (fun e => by have := hS _ e; omega), h.gr.trans' t (fun i hi e => by have := hS _ e; omega)⟩
theorem Sm.put {W : World} {g o : Nat} {z : Nat} {X : World} (h : Sm W g o z X) (z' : Nat) : Sm W g o z' (X.setCell ⟨W.heap.size + 1, 0, none⟩ (.int .i64 (z' : Int))).drew ∧
    Gr (fun i => i = W.heap.size + 1) X (X.setCell ⟨W.heap.size + 1, 0, none⟩ (.int .i64 (z' : Int))).drew := by
  have t : Gr (fun i => i = W.heap.size + 1) X (X.setCell ⟨W.heap.size + 1, 0, none⟩ (.int .i64 (z' : Int))).drew := (Gr.set (S := fun i => i = W.heap.size + 1) X ⟨W.heap.size + 1, 0, none⟩ (.int .i64 (z' : Int)) rfl).trans (Gr.drew _ _)
  exact ⟨⟨t.keep h.r1 (fun e => by omega), heap_setCell_same X (W.heap.size + 1) 0 _ 3 _ h.size, t.keep h.at_ (fun e => by omega), t.keep h.deep (fun e => by omega), h.gr.trans' t (fun i hi e => by omega)⟩, t⟩

set_option maxRecDepth 100000 in
set_option maxHeartbeats 1600000 in
theorem small_t (A : Nat → Prop) (W : World) (T : Tm) (g o : Nat) (hat : At A W T g o) (hA : ∀ k, A k → k < W.heap.size) (hh : hgt T < 9223372036854775000) (hok : okT Pm stepW T 1 0) (n : Nat) (hgo : goT stepW T 1 0 = .ok n) :
    Calls Try.prog 32 #[ptr g o] W fun e w' => e = .returned (.bool true) ∧ Gr (fun _ => False) W w' := by
  refine (callsIn_wide (n := 3)).1 ?_
  refine callsIn_of_wp_marks Try.func32 rfl trivial ?_ rfl
  simp only [Try.ntmps32, List.size_toArray, List.length_cons, List.length_nil, Nat.reduceAdd, Nat.reduceSub, Array.replicate_succ, Array.replicate_zero, List.push_toArray, List.append_toArray, List.nil_append, List.cons_append]
  gi_wp2_with (first
    | (refine ⟨trivial, ?_⟩; gi_at_call 36; refine (callsIn_wide.2 (partsAt_c _ _ _ _)).mono ?_; rintro e w1 ⟨rfl, rfl⟩))
  generalize hX0 : (World.alloc (World.alloc (World.alloc (World.alloc W _) _) _) _) = X0
  have hgX : Gr (fun _ => False) W X0 := hX0 ▸ ((((Gr.alloc _ _ _).trans (Gr.alloc _ _ _)).trans (Gr.alloc _ _ _)).trans (Gr.alloc _ _ _))
  have hs0 : X0.heap.size = W.heap.size + 4 := by rw [← hX0]; simp
  have hw0 : Sm W g o 0 X0 := by
    subst hX0
    refine ⟨?_, ?_, ?_, ?_, hgX⟩ <;> (simp only [al, World.size_alloc]; repeat (first | rw [if_pos trivial] | rw [if_pos (by omega)] | rw [if_neg (by omega)]))
    rfl
  clear hX0
  have hX : ∀ X : World, Gr (fun _ => False) W X → ∀ k, A k → X.heap[k]? = X0.heap[k]? := fun X h k hk => (h.block k (hA k hk) (fun e => e)).trans (hgX.block k (hA k hk) (fun e => e)).symm
  have hat0 : At A X0 T g o := hat.turn (fun k hk => hgX.block k (hA k hk) (fun e => e))
  refine rangeParts (parts_all _) (bd := W.heap.size + 3) (bt := W.heap.size + 2) (g := g) (o := o) (d := 1) Pm stepW A rfl rfl (by omega) (by omega) hat0
    (fun k hk => by have := hA k hk; omega) (fun z X => Sm W g o z X) (fun _ _ => False) ?hI ?hIx ?hIA ?hbox 0 hok hw0 ?a1 ?assign ?body ?done ?stop
  case hI =>
    rintro z X X' h t
    exact h.turn t (fun i e => by omega)
  case hIx => exact fun x X X' h _ => h.elim
  case hIA => exact fun z X h k hk => hX X h.gr k hk
  case hbox =>
    rintro z X h
    exact ⟨(cell_of h.deep).1, (cell_of h.at_).1⟩
  case assign =>
    intro d g o l X K hK
    gi_wp2
    exact hK
  case body =>
    rintro z d T' g' o' X ⟨hd, hz⟩ hat' h hlt
    obtain ⟨-, v', hrep', hns⟩ := hat'.turn (W' := X) (fun k hk => hX X h.gr k hk)
    obtain ⟨t', bs', l', b1, e1, b2, e2, rfl, rfl⟩ := hrep'.ts
    have hns : Ns X g' o' _ := hns
    have hlb : lenB (.mk t' bs' l') = bs'.length := rfl
    rw [hlb] at hz
    have hst : stepW d (.mk t' bs' l') z = .ok (z + 1 + bs'.length) := rfl
    rw [hst]
    obtain ⟨m, hm⟩ : ∃ m, bs'.length = m := ⟨_, rfl⟩
    rw [hm] at hz hns ⊢
    rw [hs0] at hlt
    obtain ⟨t0, t1, t2, t3, t4, t5, t6, t7, t8⟩ := hns.facts
    obtain ⟨z1, z2⟩ := cell_of h.size
    have hzI : (z : Int) + 1 + (m : Int) ≤ 4096 := by omega
    have hz0 : (0 : Int) ≤ (z : Int) := by omega
    have hm0 : (0 : Int) ≤ (m : Int) := by omega
    clear hm hz hrep'
    gi_wp2
    gi_region_with (fail)
    all_goals
      have hwv : IntKind.i64.wrap ((z : Int) + IntKind.i64.wrap (1 + (m : Int))) = ((z + 1 + m : Nat) : Int) := by
        have h1 : IntKind.i64.wrap (1 + (m : Int)) = 1 + (m : Int) := by rw [IntKind.wrap_i64]; omega
        rw [h1, IntKind.wrap_i64]; omega
      rw [hwv]
      obtain ⟨hw2, hs2⟩ := h.put (z + 1 + m)
      generalize hX2 : World.drew (World.setCell X _ _) = X2
      replace hw2 : Sm W g o (z + 1 + m) X2 := by rw [← hX2]; exact hw2
      replace hs2 : Gr (fun i => i = W.heap.size + 1) X X2 := by rw [← hX2]; exact hs2
      have hx2 : W.heap.size + 5 < X2.heap.size := by have := hs2.size; omega
      have hq1 : ¬ 24 < d := by omega
      have hq2 : ¬ (4096 : Int) < ((z + 1 + m : Nat) : Int) := by omega
      clear hX2 z1 z2 t0 t1 t2 t3 t4 t5 t6 t7 t8 hwv
      obtain ⟨z1, z2⟩ := cell_of hw2.size
      generalize ((z + 1 + m : Nat) : Int) = zz at z1 hq2 ⊢
      gi_wp2
      exact ⟨Kx.of_gr hs2 (fun k _ e => by omega), _, rfl, hw2⟩
  case done =>
    rintro z X hz h hD hsz
    rw [hs0] at hD ⊢
    obtain ⟨p1, p2⟩ := cell_of h.r1
    have t3 : Gr (fun i => i = W.heap.size) X (X.setCell ⟨W.heap.size, 0, none⟩ (.bool true)) := Gr.set _ _ _ rfl
    have e1 : (X.setCell ⟨W.heap.size, 0, none⟩ (.bool true)).heap[W.heap.size]? = some (.cells #[.bool true] 4 (0, 0)) := heap_setCell_same X W.heap.size 0 _ 4 _ h.r1
    have e3 := t3.keep hD (by omega)
    have e4 := h.gr.trans' t3 (fun i hi e => by omega)
    have t5 : Gr (fun i => i = W.heap.size + 4) (X.setCell ⟨W.heap.size, 0, none⟩ (.bool true)) ((X.setCell ⟨W.heap.size, 0, none⟩ (.bool true)).putObj (W.heap.size + 4) (.deferred none)) := Gr.of_grown (grownBy_putObj' _ _ _) (fun k e => by cases e; rfl)
    have k1 := (cell_of (t5.keep e1 (by omega))).1
    have k3 := e4.trans' t5 (fun i hi e => by omega)
    gi_wp2
    refine ⟨by simp, .inl ⟨_, _, rfl, run_takeDeferred e3, ?_⟩⟩
    exact ⟨.bool true, by simp [results, Try.results32, go_sem, k1], rfl, k3⟩
  case stop =>
    exact fun x _ _ h => h.elim
end Go.Proofs.Ytfamepdghememaa



