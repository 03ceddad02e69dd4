/-
  without: a row without its i-th datagram.
-/
import Derived.Test.YtjffhnpoipolfaaC
set_option linter.unusedVariables false
set_option linter.unusedSimpArgs false
namespace Go.Proofs.Ytjffhnpoipolfaa
open Go.RowKit Go.Maps Go.WideMaps
variable {S S' : Nat → Prop} {W W1 W' : World}

section
variable {w : World} {ops : Array Oper} {o : Oper} {a : Act} {Q : Exit → Act → World → Prop} {K : Act → World → Prop} {E : Prop}
theorem step_copy (hgd : o.guard = none) (x y : Operand) (dT sT : TypeId)
    (ho : o.op = .call { callee := .builtin .copy, args := #[x, y], argTypes := #[dT, sT] }) (v1 v2 : Value) (hx : a.eval x = v1) (hy : a.eval y = v2) (v : Value) (w' : World)
    (hr : (Builtin.copy_ #[dT, sT] o.type #[v1, v2]).run Try.prog w = .ok v w') (h : K (a.put o.dst v) w') :
    if Region.wanted o (yielded ops a.tmps) = true then Oper.wp Try.prog o a w K Q else E := by
  have hw : Region.wanted o (yielded ops a.tmps) = true := by simp [Region.wanted, hgd]
  rw [if_pos hw]
  unfold Oper.wp execOp
  simp only [ho, resolve, invoke, builtin, Sem.run_bind, Sem.run_pure, Result.andThen_ok, List.map_toArray, List.map_cons, List.map_nil, hx, hy, hr]
  exact h
end
/-- copy(l[i:], l[i+1:]) and what comes of the row. -/
theorem copyRow (w : World) (g cap n i : Nat) (l : List Dg) (ty : TypeId) (hn : l.length = n + 1) (hi : i < n + 1) (h : w.ownsRow 0 39 5 (.slice (some ⟨g, 0, none⟩) (n + 1) cap) (n + 1) (flat l)) (a : Addr) (ha : i < n → a = ⟨g, (i + 1) * 5, none⟩) (c1 c2 : Nat) :
    ∃ v w', (Builtin.copy_ #[30, 30] ty #[.slice (some ⟨g, i * 5, none⟩) (n + 1 - i) c1, .slice (some a) (n - i) c2]).run Try.prog w = .ok v w' ∧ Rw w' g cap n (flat (l.eraseIdx i)) ∧ Gr (fun k => k = g) w w' ∧ n + 1 ≤ cap ∧ cap ≤ maxLen := by
  rcases h.2 with ⟨e, _⟩ | ⟨g', cap', cur, e, h1, h2, h3, h4, h5, h6⟩
  · cases e
  cases e
  have hcs : (flat (l.drop (i + 1))).length = Nat.min (n - i) (n + 1 - i) * 5 := by
    rw [flat_length, List.length_drop, hn, show n + 1 - (i + 1) = n - i by omega]; congr 1; exact (Nat.min_eq_left (by omega)).symm
  have hsrc : ∀ j v, (flat (l.drop (i + 1)))[j]? = some v → w.cell? (a.add j) = some v := by
    intro j v hj
    have hjl : j < (n - i) * 5 := by have := (List.getElem?_eq_some_iff.1 hj).1; rw [flat_length, List.length_drop, hn] at this; omega
    have ha' := ha (by omega)
    subst ha'
    rw [Addr.add_lit]
    rw [← flat_drop, ← h6, List.getElem?_drop, List.getElem?_take_of_lt (by omega)] at hj
    simp only [World.cell?, h2]
    simpa using hj
  have hfit : i * 5 + (flat (l.drop (i + 1))).length ≤ cur.size := by rw [flat_length, List.length_drop, hn, h5]; omega
  have hone : ∀ v ∈ flat (l.drop (i + 1)), v.oneCell' = true := by
    intro v hv
    simp only [flat, List.mem_flatMap] at hv
    obtain ⟨d, _, hv⟩ := hv
    simp only [Dg.cells, List.mem_cons, List.not_mem_nil, or_false] at hv
    rcases hv with rfl | rfl | rfl | rfl | rfl <;> rfl
  refine ⟨_, _, run_copy_wide w 30 30 ty 39 5 g (i * 5) _ c1 a _ c2 cur 39 (flat (l.drop (i + 1))) Try.underlying30 size39 h2 hcs hsrc hfit hone, ?_, Gr.setRow _ _ _ rfl, h3, h4⟩
  refine ⟨_, setRow_heap _ _ cur _ 39 (0, 0) h2, ?_, ?_⟩
  · simp only [List.size_toArray, List.length_append, List.length_take, List.length_drop, Array.length_toList]
    omega
  · simp only [List.toList_toArray]
    have hl1 : (cur.toList.take (i * 5)) = flat (l.take i) := by
      rw [← flat_take, ← h6, List.take_take, Nat.min_eq_left (by omega)]
    rw [hl1, List.take_append_of_le_length (by rw [List.length_append, flat_length, flat_length, List.length_take, List.length_drop, hn, Nat.min_eq_left (by omega)]; omega)]
    rw [List.take_of_length_le (by rw [List.length_append, flat_length, flat_length, List.length_take, List.length_drop, hn, Nat.min_eq_left (by omega)]; omega), ← flat_append, List.eraseIdx_eq_take_drop_succ]
theorem Rw.owns {g cap n : Nat} {xs : List Value} (h : Rw W g cap n xs) (hx : xs.length = n * 5) (hc : n ≤ cap) (hm : cap ≤ maxLen) : W.ownsRow 0 39 5 (.slice (some ⟨g, 0, none⟩) n cap) n xs := by
  obtain ⟨cur, h1, h2, h3⟩ := h
  exact ⟨hx, .inr ⟨g, cap, cur, rfl, Nat.zero_le _, h1, hc, hm, h2, h3⟩⟩
theorem Rw.facts {g cap n : Nat} {xs : List Value} (h : Rw W g cap n xs) (hc : n + 1 ≤ cap) : (∀ j, W.frozen? ⟨g, j, none⟩ = false) ∧ (∀ j, j < 5 → ∃ v, W.cell? ⟨g, n * 5 + j, none⟩ = some v) := by
  obtain ⟨cur, h1, h2, h3⟩ := h
  refine ⟨fun j => by simp [World.frozen?, h1], fun j hj => ?_⟩
  have : n * 5 + j < cur.size := by omega
  exact ⟨cur[n * 5 + j], by simp [World.cell?, h1, this]⟩
set_option maxHeartbeats 800000 in
theorem without_a (W : World) (g cap n : Nat) (l : List Dg) (i : Nat) (hn : l.length = n + 1) (hi : i < n + 1) (hl : (n : Int) ≤ 1024) (hc : ¬ cap = i + 1) (h : W.ownsRow 0 39 5 (.slice (some ⟨g, 0, none⟩) (n + 1) cap) (n + 1) (flat l)) :
    Calls Try.prog 35 #[.slice (some ⟨g, 0, none⟩) (n + 1) cap, .int .i64 (i : Int)] W fun e w' => e = .returned (.slice (some ⟨g, 0, none⟩) n cap) ∧ w'.ownsRow 0 39 5 (.slice (some ⟨g, 0, none⟩) n cap) n (flat (l.eraseIdx i)) ∧ Gr (fun k => k = g) W w' := by
  have hcap : n + 1 ≤ cap ∧ cap ≤ 9223372036854775807 := by
    obtain ⟨a, c, e, h1, h2⟩ := ownsRow_sv h; cases e; exact ⟨h1, h2⟩
  obtain ⟨hc1, hc2⟩ := hcap
  have i2 : IntKind.i64.wrap ((i : Int) + 1) = (i : Int) + 1 := by rw [IntKind.wrap_i64]; omega
  have i3 : i ≤ n + 1 := by omega
  have i4 : (i : Int) ≤ (n : Int) + 1 := by omega
  have i5 : 0 ≤ (i : Int) + 1 := by omega
  have i6 : (i : Int) ≤ (n : Int) := by omega
  have i7 : ¬ cap = i := by omega
  obtain ⟨cv, w1, hrun, hrw, hgr, _, hm⟩ := copyRow W.drew g cap n i l 3 hn hi (by simpa using ownsRow_of_block h (W' := W.drew) (fun k _ => rfl)) ⟨g, (i + 1) * 5, none⟩ (fun _ => rfl) (cap - i) (cap - (i + 1))
  have hrw2 := Lib.hid hrw
  have hgr2 := Lib.hid hgr
  have hm2 := Lib.hid hm
  obtain ⟨hf, hcell⟩ := hrw.facts hc1
  obtain ⟨y0, z0⟩ := hcell 0 (by omega)
  obtain ⟨y1, z1⟩ := hcell 1 (by omega)
  obtain ⟨y2, z2⟩ := hcell 2 (by omega)
  obtain ⟨y3, z3⟩ := hcell 3 (by omega)
  obtain ⟨y4, z4⟩ := hcell 4 (by omega)
  rw [Nat.add_zero] at z0
  have Hn := Lib.hid hn
  clear hcell h hgr hrw hm hn
  go_enter Try.func35, Try.ntmps35
  go_wp2_with fail
  go_region
  go_wp2
  go_ret
  refine ⟨rfl, ?_, ?_⟩
  · exact (((((hrw2.out.set _ (by omega) _).set _ (by omega) _).set _ (by omega) _).set _ (by omega) _).set _ (by omega) _).owns (by rw [flat_length, List.length_eraseIdx_of_lt (by have := Hn.out; omega), Hn.out]; rfl) (by omega) hm2.out
  · exact ((((((Gr.drew W _).trans hgr2.out).cell _ _ (.inl rfl)).cell _ _ (.inl rfl)).cell _ _ (.inl rfl)).cell _ _ (.inl rfl)).cell _ _ (.inl rfl)
set_option maxHeartbeats 800000 in
theorem without_b (W : World) (g cap n : Nat) (l : List Dg) (i : Nat) (hn : l.length = n + 1) (hi : i < n + 1) (hl : (n : Int) ≤ 1024) (hc : cap = i + 1) (h : W.ownsRow 0 39 5 (.slice (some ⟨g, 0, none⟩) (n + 1) cap) (n + 1) (flat l)) :
    Calls Try.prog 35 #[.slice (some ⟨g, 0, none⟩) (n + 1) cap, .int .i64 (i : Int)] W fun e w' => e = .returned (.slice (some ⟨g, 0, none⟩) n cap) ∧ w'.ownsRow 0 39 5 (.slice (some ⟨g, 0, none⟩) n cap) n (flat (l.eraseIdx i)) ∧ Gr (fun k => k = g) W w' := by
  have hcap : n + 1 ≤ cap ∧ cap ≤ 9223372036854775807 := by
    obtain ⟨a, c, e, h1, h2⟩ := ownsRow_sv h; cases e; exact ⟨h1, h2⟩
  obtain ⟨hc1, hc2⟩ := hcap
  have i2 : IntKind.i64.wrap ((i : Int) + 1) = (i : Int) + 1 := by rw [IntKind.wrap_i64]; omega
  have i3 : i ≤ n + 1 := by omega
  have i4 : (i : Int) ≤ (n : Int) + 1 := by omega
  have i5 : 0 ≤ (i : Int) + 1 := by omega
  have i6 : (i : Int) ≤ (n : Int) := by omega
  have i7 : ¬ cap = i := by omega
  obtain ⟨cv, w1, hrun, hrw, hgr, _, hm⟩ := copyRow W.drew g cap n i l 3 hn hi (by simpa using ownsRow_of_block h (W' := W.drew) (fun k _ => rfl)) ⟨g, 0, none⟩ (fun hh => by omega) 1 0
  have hrw2 := Lib.hid hrw
  have hgr2 := Lib.hid hgr
  have hm2 := Lib.hid hm
  obtain ⟨hf, hcell⟩ := hrw.facts hc1
  obtain ⟨y0, z0⟩ := hcell 0 (by omega)
  obtain ⟨y1, z1⟩ := hcell 1 (by omega)
  obtain ⟨y2, z2⟩ := hcell 2 (by omega)
  obtain ⟨y3, z3⟩ := hcell 3 (by omega)
  obtain ⟨y4, z4⟩ := hcell 4 (by omega)
  rw [Nat.add_zero] at z0
  have Hn := Lib.hid hn
  clear hcell h hgr hrw hm hn
  go_enter Try.func35, Try.ntmps35
  go_wp2_with fail
  go_region
  go_wp2
  go_ret
  refine ⟨by rw [hc]; rfl, ?_, ?_⟩
  · exact (((((hrw2.out.set _ (by omega) _).set _ (by omega) _).set _ (by omega) _).set _ (by omega) _).set _ (by omega) _).owns (by rw [flat_length, List.length_eraseIdx_of_lt (by have := Hn.out; omega), Hn.out]; rfl) (by omega) hm2.out
  · exact ((((((Gr.drew W _).trans hgr2.out).cell _ _ (.inl rfl)).cell _ _ (.inl rfl)).cell _ _ (.inl rfl)).cell _ _ (.inl rfl)).cell _ _ (.inl rfl)
theorem without_c (W : World) (g cap n : Nat) (l : List Dg) (i : Nat) (hn : l.length = n + 1) (hi : i < n + 1) (hl : (n : Int) ≤ 1024) (h : W.ownsRow 0 39 5 (.slice (some ⟨g, 0, none⟩) (n + 1) cap) (n + 1) (flat l)) :
    Calls Try.prog 35 #[.slice (some ⟨g, 0, none⟩) (n + 1) cap, .int .i64 (i : Int)] W fun e w' => e = .returned (.slice (some ⟨g, 0, none⟩) n cap) ∧ w'.ownsRow 0 39 5 (.slice (some ⟨g, 0, none⟩) n cap) n (flat (l.eraseIdx i)) ∧ Gr (fun k => k = g) W w' := by
  by_cases hc : cap = i + 1
  · exact without_b W g cap n l i hn hi hl hc h
  · exact without_a W g cap n l i hn hi hl hc h
end Go.Proofs.Ytjffhnpoipolfaa
