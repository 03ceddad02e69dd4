/-
  SerialSorts' walk.
-/
import Derived.Test.YtanhigaingjalaaC
import Derived.Test.YtanhigaingjalaaG
set_option linter.unusedSimpArgs false
set_option linter.unusedVariables false
namespace Go.Proofs.Ytanhigaingjalaa
open Go.RowKit Go.Maps
variable {S S' : Nat → Prop} {W W1 W' : World}

set_option maxRecDepth 20000 in
set_option maxHeartbeats 1000000 in
theorem sorts_long (hal : AliveOk) (W : World) (base : Int) (v : Value) (l : List Int) (h : Sl W v l) (hn : (300 : Int) < (l.length : Int)) :
    Calls Try.prog 4 #[.int .u32 base, v] W fun e W' => e = .returned (.bool true) ∧ G0 W W' := by
  obtain ⟨a, cap, rfl, -, -, -⟩ := h.sv
  have hll := h.len
  clear h
  go_enter Try.func4, Try.ntmps4
  go_wp2_with fail
  refine (hal _).mono ?_
  rintro e w1 ⟨rfl, hg1⟩
  go_wp2_with fail
  go_ret
  exact ⟨rfl, hg1⟩

set_option maxRecDepth 20000 in
set_option maxHeartbeats 1000000 in
theorem sorts_none (hal : AliveOk) (W : World) (base : Int) (hb : Rg base) (v : Value) (h : Sl W v []) :
    Calls Try.prog 4 #[.int .u32 base, v] W fun e W' => e = .returned (.bool true) ∧ G0 W W' := by
  have h0 := Lib.hid h
  obtain ⟨a, cap, rfl, -, -, -⟩ := h.sv
  clear h
  go_enter Try.func4, Try.ntmps4
  go_wp2_with fail
  refine (hal _).mono ?_
  rintro e w1 ⟨rfl, hg1⟩
  have ho := Ow.lit w1.heap.size w1 [] (by simp) (by simp) (Nat.le_refl _) #[] rfl 0 rfl
  go_wp2_with (at_builtin; refine wpList_app _ rfl _ _ rfl w1.heap.size _ _ [] [] rfl rfl ho (h0.out.g0 (hg1.trans (Gr.alloc _ _ _))) (by simp) (by simp) ?_; intro v1 w2 o1 g1 n1 b1)
  have gg : G0 W w2 := (hg1.trans (Gr.alloc w1 _ _)).new (ho.grown g1) hg1.size
  clear n1 b1 g1 ho
  obtain ⟨a1, c1, rfl⟩ := o1.sv
  go_wp2_with fail
  refine (sort_none _ base _ o1.sl).mono ?_
  rintro e w3 ⟨v', rfl, o2, hg2⟩
  obtain ⟨a2, c2, rfl⟩ := o2.sv
  go_wp2_with fail
  refine (rsort_c _ base hb _ [] (h0.out.g0 (gg.trans hg2))).mono ?_
  rintro e w4 ⟨v3, l3, rfl, o3, p3, -, hg3⟩
  obtain rfl : l3 = [] := p3.eq_nil
  obtain ⟨a3, c3, rfl⟩ := o3.sv
  clear o1 o2 o3
  go_wp2_with fail
  refine wp_loop_rounds 1 ?_
  rw [rounds_succ]
  go_wp2_with fail
  refine wp_loop_rounds 1 ?_
  rw [rounds_succ]
  go_wp2_with fail
  refine wp_loop_rounds 1 ?_
  rw [rounds_succ]
  go_wp2_with fail
  go_ret
  exact ⟨rfl, (gg.trans hg2).trans hg3⟩

set_option maxRecDepth 20000 in
set_option maxHeartbeats 2000000 in
theorem sorts_some (hal : AliveOk) (W : World) (base : Int) (hb : Rg base) (v : Value) (l : List Int) (h : Sl W v l) (hn : l ≠ []) (h300 : (l.length : Int) ≤ 300) :
    Calls Try.prog 4 #[.int .u32 base, v] W fun e W' => e = .returned (.bool true) ∧ G0 W W' := by
  have h0 := Lib.hid h
  have hll := h.len
  obtain ⟨b, off, cap, rfl, hc⟩ := h.nn hn
  have hbW : b < W.heap.size := World.block_lt_of_cell? _ _ (hc 0 (List.length_pos_iff.2 hn))
  clear hc h
  have hn' := Lib.hid hn
  clear hn
  go_enter Try.func4, Try.ntmps4
  go_wp2_with fail
  refine (hal _).mono ?_
  rintro e w1 ⟨rfl, hg1⟩
  have ho := Ow.lit w1.heap.size w1 [] (by simp) (by simp) (Nat.le_refl _) #[] rfl 0 rfl
  go_wp2_with (at_builtin; refine wpList_app _ rfl _ _ rfl w1.heap.size _ _ [] l rfl rfl ho (h0.out.g0 (hg1.trans (Gr.alloc _ _ _))) (by simpa using h0.out.len) (by simp) ?_; intro v1 w2 o1 g1 n1 b1)
  have gg : G0 W w2 := (hg1.trans (Gr.alloc w1 _ _)).new (ho.grown g1) hg1.size
  clear n1 b1 g1 ho
  have o1' : Ow w1.heap.size w2 v1 l := by simpa using o1
  clear o1
  obtain ⟨gc, c1, rfl, hgc⟩ := o1'.form hn'.out
  have hgc2 := (o1'.lt gc rfl).2
  go_wp2_with fail
  refine (sort_ok _ base _ l o1'.sl).mono ?_
  rintro e w3 ⟨v2, l2, rfl, o2, p2, s2, hg2⟩
  have hlen2 := p2.length_eq
  obtain ⟨gr, c2, rfl, hgr⟩ := o2.form (fun e => hn'.out (by rw [e] at hlen2; exact List.length_eq_zero_iff.1 hlen2.symm))
  go_wp2_with fail
  refine (rsort_c _ base hb _ l (h0.out.g0 (gg.trans hg2))).mono ?_
  rintro e w4 ⟨v3, l3, rfl, o3, p3, s3, hg3⟩
  obtain rfl : l3 = l2 := so_one o3.rng s3 s2 (p3.trans p2.symm)
  obtain ⟨gw, c3, rfl, -⟩ := o3.form (fun e => hn'.out (by rw [e] at hlen2; exact List.length_eq_zero_iff.1 hlen2.symm))
  have g4 := (gg.trans hg2).trans hg3
  have q1 := Lib.hid (o1'.g0 (hg2.trans hg3))
  have q2 := Lib.hid (o2.g0 hg3)
  have q3 := Lib.hid o3
  have hl3 := Lib.hid hlen2
  rw [hlen2]
  clear o1' o2 o3 p2 s2 p3 s3 hlen2
  have hsz2 : W.heap.size ≤ w2.heap.size := gg.size
  have hsz4 : w2.heap.size ≤ w4.heap.size := (hg2.trans hg3).size
  go_wp2_with fail
  go_loopw [8] (fun i wr => ∃ k : Nat, k ≤ l.length ∧ i = .int .i64 (k : Int) ∧ G0 w4 wr) (fun i _ => l.length - (intOf i).toNat)
  case atStart => exact ⟨0, Nat.zero_le _, rfl, Gr.refl _ _⟩
  case round =>
    obtain ⟨k, hk, rfl, hg⟩ := hrel
    by_cases hlt : k < l.length
    · have hltI : (k : Int) < (l.length : Int) := by omega
      have cx := ((q2.out.g0 hg).cell rfl (j := k) (by rw [hl3.out]; exact hlt)).1
      have cz := ((q3.out.g0 hg).cell rfl (j := k) (by rw [hl3.out]; exact hlt)).1
      have cc := ((q1.out.g0 hg).cell rfl (j := k) hlt).1
      have cy : wr.cell? ⟨b, off + k, none⟩ = some (.int .u32 (l.getD k 0)) := by
        obtain ⟨b2, off2, cap2, e2, hc2⟩ := (h0.out.g0 (g4.trans hg)).nn hn'.out
        cases e2
        exact hc2 k hlt
      generalize l3.getD k 0 = x at *
      generalize l.getD k 0 = y at *
      go_wp2_with fail
      go_quiet (fail)
      go_wp2_with fail
      exact ⟨⟨k + 1, by omega, by go_num, hg.trans (Gr.drewN _ _ _)⟩, by simp [intOf]; omega⟩
    · obtain rfl : k = l.length := by omega
      have hg5 := Lib.hid hg
      clear hg
      have hsz5 : w4.heap.size ≤ wr.heap.size := hg5.out.size
      go_wp2_with fail
      go_loopw [9] (fun i wr' => ∃ (k : Nat) (m : List Int), k ≤ l.length ∧ i = .int .i64 (k : Int) ∧ m.length = l.length ∧ Ow w2.heap.size wr' (.slice (some ⟨gr, 0, none⟩) l.length c2) m ∧ Gr (fun j => w2.heap.size ≤ j) wr wr') (fun i _ => l.length - (intOf i).toNat)
      case atStart => exact ⟨0, l3, Nat.zero_le _, rfl, hl3.out, by have := q2.out.g0 hg5.out; rwa [hl3.out] at this, Gr.refl _ _⟩
      case round =>
        obtain ⟨k, m, hk, rfl, hm, hO, hG⟩ := hrel
        by_cases hlt2 : k < l.length
        · have hltI : (k : Int) < (l.length : Int) := by omega
          obtain ⟨ck, fk⟩ := hO.cell hm.symm (j := k) (by omega)
          have hst := Lib.hid (hO.stored hm.symm k 7 (by decide))
          have hgs := Lib.hid (hG.trans (Gr.set (S := fun i => w2.heap.size ≤ i) _ ⟨gr, k, none⟩ (.int .u32 7) hgr))
          have hO' := Lib.hid hO
          have hm' := Lib.hid hm
          clear hO hm
          go_wp2_with fail
          exact ⟨⟨k + 1, m.set k 7, by omega, by go_num, by simp [hm'.out], hst.out, hgs.out⟩, by simp [intOf]; omega⟩
        · obtain rfl : k = l.length := by omega
          have gE := Lib.hid ((g4.trans hg5.out).trans' hG (fun i hi e => by omega))
          have q9 := Lib.hid ((q1.out.g0 hg5.out).gr hG (fun kk h1 h2 => by
            have e : gc = kk := by simpa [Value.ownBlock] using h2
            omega))
          clear hO hG hm
          go_wp2_with fail
          go_loopw [10] (fun i wz => ∃ k : Nat, k ≤ l.length ∧ i = .int .i64 (k : Int) ∧ G0 wr wz) (fun i _ => l.length - (intOf i).toNat)
          case atStart => exact ⟨0, Nat.zero_le _, rfl, Gr.refl _ _⟩
          case round =>
            obtain ⟨k, hk, rfl, hz⟩ := hrel
            by_cases hlt3 : k < l.length
            · have hltI : (k : Int) < (l.length : Int) := by omega
              have cc := ((q9.out.g0 hz).cell rfl (j := k) hlt3).1
              have cy : wr.cell? ⟨b, off + k, none⟩ = some (.int .u32 (l.getD k 0)) := by
                obtain ⟨b2, off2, cap2, e2, hc2⟩ := (h0.out.g0 (gE.out.trans hz)).nn hn'.out
                cases e2
                exact hc2 k hlt3
              generalize l.getD k 0 = y at *
              go_wp2_with fail
              go_quiet (fail)
              go_wp2_with fail
              exact ⟨⟨k + 1, by omega, by go_num, hz.trans (Gr.drewN _ _ _)⟩, by simp [intOf]; omega⟩
            · obtain rfl : k = l.length := by omega
              go_wp2_with fail
              go_ret
              exact ⟨rfl, gE.out.trans hz⟩

theorem sorts_w (hal : AliveOk) (W : World) (base : Int) (hb : Rg base) (v : Value) (l : List Int) (h : Sl W v l) :
    Calls Try.prog 4 #[.int .u32 base, v] W fun e W' => e = .returned (.bool true) ∧ G0 W W' := by
  by_cases hn : l = []
  · subst hn; exact sorts_none hal W base hb v h
  · by_cases h3 : (300 : Int) < (l.length : Int)
    · exact sorts_long hal W base v l h h3
    · exact sorts_some hal W base hb v l h hn (by omega)
end Go.Proofs.Ytanhigaingjalaa
