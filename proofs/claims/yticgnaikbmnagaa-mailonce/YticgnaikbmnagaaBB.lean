/-
  Carried over from another seat of ours (BB).
-/
import Derived.Test.YticgnaikbmnagaaAZ
import Derived.Test.YticgnaikbmnagaaBA
set_option linter.unusedVariables false
set_option linter.unusedSimpArgs false
namespace Go.Proofs.Yticgnaikbmnagaa
open Go.RowKit Go.Maps Go.Shelf
attribute [local go_sem] Oper.semAt_some

/-- fault finds nothing wrong with the tree's first part, wherever it stands. -/
def FaultOk (T : Tm) : Prop := ∀ (A : Nat → Prop) (W : World) (kb g o : Nat) (v : Value) (d z : Int), Kd W kb → Rep A W T v → Ns W g o v → d ≤ 24 → z ≤ 4096 →
  Calls Try.prog 27 #[pt kb, ptr g o, .int .i64 d, .int .i64 z] W fun e w' => e = .returned (.int .i64 0) ∧ Gr (fun _ => False) W w'
def lenB : Tm → Nat
  | .mk _ bs _ => bs.length
theorem Rep.ts {A : Nat → Prop} {W : World} {T : Tm} {v : Value} (h : Rep A W T v) : ∃ t bs l a1 c1 a2 c2, T = .mk t bs l ∧ v = ts t.k t.n t.x t.y t.s t.a t.c t.d a1 bs.length c1 a2 l.length c2 := by
  cases T with
  | mk t bs l =>
    obtain ⟨bv, lv, vs, rfl, k1, k2, k3⟩ := h
    rcases k1 with ⟨h1, a, c, rfl⟩ | ⟨g, cap, cur, rfl, _⟩ <;> rcases k2 with ⟨h2, a', c', rfl⟩ | ⟨g', cap', cur', rfl, _⟩
    · subst h1; exact ⟨t, [], l, a, c, a', c', rfl, by rw [h2]; rfl⟩
    · subst h1; exact ⟨t, [], l, a, c, _, cap', rfl, rfl⟩
    · exact ⟨t, bs, l, _, cap, a', c', rfl, by rw [h2]⟩
    · exact ⟨t, bs, l, _, cap, _, cap', rfl, rfl⟩
/-- What weigh asks of each part, the size so far being z. -/
def Pw (d : Int) (T : Tm) (z : Nat) : Prop := FaultOk T ∧ d ≤ 24 ∧ z + 1 + lenB T ≤ 4096
def stepW (_ : Int) (T : Tm) (z : Nat) : Except Empty Nat := .ok (z + 1 + lenB T)

/-- weigh's own blocks. -/
structure Wh (W : World) (kb : Nat) (u : Obj) (z : Nat) (X : World) : Prop where
  term : X.heap[W.heap.size]? = some u
  tab : X.heap[W.heap.size + 1]? = some (.cells #[pt kb] 54 (0, 0))
  r1 : X.heap[W.heap.size + 2]? = some (.cells #[.int .i64 0] 3 (0, 0))
  r2 : X.heap[W.heap.size + 3]? = some (.cells #[.int .i64 0] 26 (0, 0))
  size : X.heap[W.heap.size + 4]? = some (.cells #[.int .i64 (z : Int)] 3 (0, 0))
  at_ : X.heap[W.heap.size + 5]? = some (.cells #[pt W.heap.size] 60 (0, 0))
  deep : X.heap[W.heap.size + 6]? = some (.cells #[.int .i64 1] 3 (0, 0))
  kd : Kd X kb
  gr : Gr (fun _ => False) W X
theorem Wh.turn {S : Nat → Prop} {W : World} {kb : Nat} {u : Obj} {z : Nat} {X X' : World} (h : Wh W kb u z X) (t : Gr S X X') (hS : ∀ i, S i → W.heap.size + 6 < i) (hkb : kb < W.heap.size) : Wh W kb u z X' :=
  ⟨t.keep h.term (fun e => by have := hS _ e; omega), t.keep h.tab (fun e => by have := hS _ e; omega), t.keep h.r1 (fun e => by have := hS _ e; omega), t.keep h.r2 (fun e => by have := hS _ e; omega),
   t.keep h.size (fun e => by have := hS _ e; omega), t.keep h.at_ (fun e => by have := hS _ e; omega), t.keep h.deep (fun e => by have := hS _ e; omega), h.kd.gr t (fun e => by have := hS _ e; omega), h.gr.trans' t (fun i hi e => by have := hS _ e; omega)⟩
theorem Wh.put {W : World} {kb : Nat} {u : Obj} {z : Nat} {X : World} (h : Wh W kb u z X) (hkb : kb < W.heap.size) (z' : Nat) : Wh W kb u z' (X.setCell ⟨W.heap.size + 4, 0, none⟩ (.int .i64 (z' : Int))).drew ∧
    Gr (fun i => i = W.heap.size + 4) X (X.setCell ⟨W.heap.size + 4, 0, none⟩ (.int .i64 (z' : Int))).drew := by
  have t : Gr (fun i => i = W.heap.size + 4) X (X.setCell ⟨W.heap.size + 4, 0, none⟩ (.int .i64 (z' : Int))).drew := (Gr.set (S := fun i => i = W.heap.size + 4) X ⟨W.heap.size + 4, 0, none⟩ (.int .i64 (z' : Int)) rfl).trans (Gr.drew _ _)
  exact ⟨⟨t.keep h.term (fun e => by omega), t.keep h.tab (fun e => by omega), t.keep h.r1 (fun e => by omega), t.keep h.r2 (fun e => by omega),
    heap_setCell_same X (W.heap.size + 4) 0 _ 3 _ h.size, t.keep h.at_ (fun e => by omega), t.keep h.deep (fun e => by omega), h.kd.gr t (fun e => by omega), h.gr.trans' t (fun i hi e => by omega)⟩, t⟩

set_option maxRecDepth 100000 in
set_option maxHeartbeats 1600000 in
theorem weigh_t (A : Nat → Prop) (W : World) (kb : Nat) (T : Tm) (v : Value) (n : Nat) (hK : Kd W kb) (hrep : Rep A W T v) (hA : ∀ k, A k → k < W.heap.size) (hh : hgt T < 9223372036854775000)
    (hok : okT Pw stepW T 1 0) (hgo : goT stepW T 1 0 = .ok n) :
    Calls Try.prog 21 #[v, pt kb] W fun e w' => e = .returned (.tuple #[.int .i64 (n : Int), .int .i64 0]) ∧ Gr (fun _ => False) W w' := by
  have hkb := hK.lt
  obtain ⟨t, bs, l, a1, c1, a2, c2, rfl, rfl⟩ := hrep.ts
  generalize bs.length = n1 at *
  generalize l.length = n2 at *
  obtain ⟨tk, tn, tx, ty, tS, ta, tc, td⟩ := t
  refine (callsIn_wide (n := 3)).1 ?_
  refine callsIn_of_wp_marks Try.func21 rfl trivial ?_ rfl
  simp only [Try.ntmps21, List.size_toArray, List.length_cons, List.length_nil, Nat.reduceAdd, Nat.reduceSub, Array.replicate_succ, Array.replicate_zero, List.push_toArray, List.append_toArray, List.nil_append, List.cons_append]
  gi_wp2_with (first
    | (refine ⟨trivial, ?_⟩; gi_at_call 24; refine (callsIn_wide.2 (parts_c _ _ _)).mono ?_; rintro e w1 ⟨rfl, rfl⟩))
  generalize hX0 : (World.alloc (World.alloc (World.alloc (World.alloc (World.alloc (World.alloc (World.alloc W _) _) _) _) _) _) _) = X0
  have hgX : Gr (fun _ => False) W X0 := hX0 ▸ (((((((Gr.alloc _ _ _).trans (Gr.alloc _ _ _)).trans (Gr.alloc _ _ _)).trans (Gr.alloc _ _ _)).trans (Gr.alloc _ _ _)).trans (Gr.alloc _ _ _)).trans (Gr.alloc _ _ _))
  have hs0 : X0.heap.size = W.heap.size + 7 := by rw [← hX0]; simp
  have hw0 : Wh W kb (.cells #[.int .i64 tk, .int .i64 tn, .complex .f64 tx ty, .string tS, .int .i64 ta, .int .u32 tc, .int .u64 td, .slice a1 n1 c1, .slice a2 n2 c2] 35 (0, 0)) 0 X0 := by
    subst hX0
    refine ⟨?_, ?_, ?_, ?_, ?_, ?_, ?_, hK.gr hgX (fun e => e), hgX⟩ <;> (simp only [al, World.size_alloc]; repeat (first | rw [if_pos trivial] | rw [if_pos (by omega)] | rw [if_neg (by omega)]))
    rfl
  clear hX0
  have hcells : Ns X0 W.heap.size 0 (ts tk tn tx ty tS ta tc td a1 n1 c1 a2 n2 c2) := fun j u hu => by
    simp only [World.cell?, hw0.term, Nat.zero_add]
    simpa [cellsOf] using hu
  have hat0 : At (fun k => A k ∨ k = W.heap.size) X0 (.mk ⟨tk, tn, tx, ty, tS, ta, tc, td⟩ bs l) W.heap.size 0 :=
    ⟨.inr rfl, _, hrep.turn (fun k hk _ => ⟨.inl hk, hgX.block k (hA k hk) (fun e => e)⟩), hcells⟩
  clear hcells
  obtain ⟨U, hw0⟩ : ∃ U, Wh W kb U 0 X0 := ⟨_, hw0⟩
  refine rangeParts (parts_all _) (bd := W.heap.size + 6) (bt := W.heap.size + 5) (g := W.heap.size) (o := 0) (d := 1) Pw stepW (fun k => A k ∨ k = W.heap.size) rfl rfl (by omega) (by omega) hat0
    (fun k hk => by rcases hk with hk | rfl; have := hA k hk; omega; omega) (fun z X => Wh W kb U z X) (fun _ _ => False) ?hI ?hIx ?hIA ?hbox 0 hok hw0 ?a1 ?assign ?body ?done ?stop
  case hI =>
    rintro z X X' h t
    exact h.turn t (fun i e => by omega) hkb
  case hIx => exact fun x X X' h _ => h.elim
  case hIA =>
    rintro z X h k (hk | rfl)
    · exact (h.gr.block k (hA k hk) (fun e => e)).trans (hgX.block k (hA k hk) (fun e => e)).symm
    · exact h.term.trans hw0.term.symm
  case hbox =>
    rintro z X h
    exact ⟨(cell_of h.deep).1, (cell_of h.at_).1⟩
  case assign =>
    intro d g o l X K hK
    gi_wp2
    exact hK
  case body =>
    rintro z d T' g o X ⟨hf, hd, hz⟩ hat h hlt
    have hgA := hat.1
    obtain ⟨-, v', hrep', hns⟩ := hat.turn (W' := X) (by
      rintro k (hk | rfl)
      · exact (h.gr.block k (hA k hk) (fun e => e)).trans (hgX.block k (hA k hk) (fun e => e)).symm
      · exact h.term.trans hw0.term.symm)
    obtain ⟨t', bs', l', b1, e1, b2, e2, rfl, rfl⟩ := hrep'.ts
    have hns : Ns X g o _ := hns
    have hlb : lenB (.mk t' bs' l') = bs'.length := rfl
    rw [hlb] at hz
    have hst : stepW d (.mk t' bs' l') z = .ok (z + 1 + bs'.length) := rfl
    rw [hst]
    obtain ⟨m, hm⟩ : ∃ m, bs'.length = m := ⟨_, rfl⟩
    rw [hm] at hz hns hrep' ⊢
    rw [hs0] at hlt
    obtain ⟨t0, t1, t2, t3, t4, t5, t6, t7, t8⟩ := hns.facts
    obtain ⟨z1, z2⟩ := cell_of h.size
    obtain ⟨y1, y2⟩ := cell_of h.tab
    have z1' : X.cell? ⟨W.heap.size + 1 + 1 + 1 + 1, 0, none⟩ = some (.int .i64 (z : Int)) := z1
    have z2' : X.frozen? ⟨W.heap.size + 1 + 1 + 1 + 1, 0, none⟩ = false := z2
    have hzI : (z : Int) + 1 + (m : Int) ≤ 4096 := by omega
    have hz0 : (0 : Int) ≤ (z : Int) := by omega
    have hm0 : (0 : Int) ≤ (m : Int) := by omega
    clear hm hz
    gi_wp2
    gi_region_with (fail)
    all_goals
      have hwv : IntKind.i64.wrap ((z : Int) + IntKind.i64.wrap (1 + (m : Int))) = ((z + 1 + m : Nat) : Int) := by
        have h1 : IntKind.i64.wrap (1 + (m : Int)) = 1 + (m : Int) := by rw [IntKind.wrap_i64]; omega
        rw [h1, IntKind.wrap_i64]; omega
      rw [hwv]
      obtain ⟨hw2, hs2⟩ := h.put hkb (z + 1 + m)
      generalize hX2 : World.drew (World.setCell X _ _) = X2
      replace hw2 : Wh W kb U (z + 1 + m) X2 := by rw [← hX2]; exact hw2
      replace hs2 : Gr (fun i => i = W.heap.size + 4) X X2 := by rw [← hX2]; exact hs2
      have hx2 : W.heap.size + 8 < X2.heap.size := by have := hs2.size; omega
      have hA2 : ∀ k, A k ∨ k = W.heap.size → X2.heap[k]? = X.heap[k]? := by
        rintro k (hk | rfl)
        · exact hs2.block k (by have := hA k hk; have := h.gr.size; omega) (by have := hA k hk; omega)
        · exact hs2.block _ (by omega) (by omega)
      have hns2 : Ns X2 g o _ := fun j u hu => by
        rw [World.cell?_of_block (w' := X2) (w := X) (a := ⟨g, o + j, none⟩) (hA2 g hgA)]; exact hns j u hu
      have hfl := hf (fun k => A k ∨ k = W.heap.size) X2 kb g o _ d ((z + 1 + m : Nat) : Int) hw2.kd (hrep'.turn (fun k hk _ => ⟨hk, hA2 k hk⟩)) hns2 hd (by omega)
      clear hX2 z1 z2 z1' z2' y1 y2 t0 t1 t2 t3 t4 t5 t6 t7 t8 hwv
      obtain ⟨z1, z2⟩ := cell_of hw2.size
      obtain ⟨y1, y2⟩ := cell_of hw2.tab
      have z1' : X2.cell? ⟨W.heap.size + 1 + 1 + 1 + 1, 0, none⟩ = some (.int .i64 ((z + 1 + m : Nat) : Int)) := z1
      generalize ((z + 1 + m : Nat) : Int) = zz at z1 z1' hfl ⊢
      gi_wp2_with (first
        | (refine ⟨trivial, ?_⟩; gi_at_call 27; refine (CallsIn.inRound _ (callsIn_wide.2 hfl)).mono ?_; rintro e X3 ⟨rfl, hg3⟩; have hw3 := hw2.turn hg3 (fun i e => e.elim) hkb))
      exact ⟨Kx.of_gr (hs2.trans (hg3.mono (fun _ _ e => e.elim))) (fun k _ e => by omega), _, rfl, hw3⟩
  case done =>
    rintro z X hz h hD hsz
    rw [hs0] at hD ⊢
    obtain rfl : n = z := by rw [hgo] at hz; cases hz; rfl
    obtain ⟨z1, z2⟩ := cell_of h.size
    obtain ⟨p1, p2⟩ := cell_of h.r1
    obtain ⟨p3, p4⟩ := cell_of h.r2
    have z1' : X.cell? ⟨W.heap.size + 1 + 1 + 1 + 1, 0, none⟩ = some (.int .i64 (n : Int)) := z1
    have p1' : X.cell? ⟨W.heap.size + 1 + 1, 0, none⟩ = some (.int .i64 0) := p1
    have p2' : X.frozen? ⟨W.heap.size + 1 + 1, 0, none⟩ = false := p2
    have p3' : X.cell? ⟨W.heap.size + 1 + 1 + 1, 0, none⟩ = some (.int .i64 0) := p3
    have p4' : X.frozen? ⟨W.heap.size + 1 + 1 + 1, 0, none⟩ = false := p4
    have t3 : Gr (fun i => i = W.heap.size + 2) X (X.setCell ⟨W.heap.size + 1 + 1, 0, none⟩ (.int .i64 (n : Int))) := Gr.set _ _ _ rfl
    have t4 : Gr (fun i => i = W.heap.size + 3) (X.setCell ⟨W.heap.size + 1 + 1, 0, none⟩ (.int .i64 (n : Int))) ((X.setCell ⟨W.heap.size + 1 + 1, 0, none⟩ (.int .i64 (n : Int))).setCell ⟨W.heap.size + 1 + 1 + 1, 0, none⟩ (.int .i64 0)) := Gr.set _ _ _ rfl
    have e1 : ((X.setCell ⟨W.heap.size + 1 + 1, 0, none⟩ (.int .i64 (n : Int))).setCell ⟨W.heap.size + 1 + 1 + 1, 0, none⟩ (.int .i64 0)).heap[W.heap.size + 2]? = some (.cells #[.int .i64 (n : Int)] 3 (0, 0)) := t4.keep (heap_setCell_same X (W.heap.size + 2) 0 _ 3 _ h.r1) (by omega)
    have e2 : ((X.setCell ⟨W.heap.size + 1 + 1, 0, none⟩ (.int .i64 (n : Int))).setCell ⟨W.heap.size + 1 + 1 + 1, 0, none⟩ (.int .i64 0)).heap[W.heap.size + 3]? = some (.cells #[.int .i64 0] 26 (0, 0)) := heap_setCell_same (X.setCell ⟨W.heap.size + 1 + 1, 0, none⟩ (.int .i64 (n : Int))) (W.heap.size + 3) 0 _ 26 _ (t3.keep h.r2 (by omega))
    have e3 := t4.keep (t3.keep hD (by omega)) (by omega)
    have e4 := (h.gr.trans' t3 (fun i hi e => by omega)).trans' t4 (fun i hi e => by omega)
    gi_wp2
    refine ⟨by simp, .inl ⟨_, _, rfl, run_takeDeferred e3, ?_⟩⟩
    obtain ⟨k1, k2, k3⟩ := wend e1 e2 e4
    exact ⟨.tuple #[.int .i64 (n : Int), .int .i64 0], by simp [results, Try.results21, go_sem, k1, k2], rfl, k3⟩
  case stop =>
    exact fun x _ _ h => h.elim
end Go.Proofs.Yticgnaikbmnagaa



