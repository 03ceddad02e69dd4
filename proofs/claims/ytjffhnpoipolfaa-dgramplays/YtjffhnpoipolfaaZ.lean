/-
  The reference's put.
-/
import Derived.Test.YtjffhnpoipolfaaY
set_option linter.unusedVariables false
set_option linter.unusedSimpArgs false
namespace Go.Proofs.Ytjffhnpoipolfaa
open Go.RowKit Go.Maps Go.WideMaps
variable {S S' Y : Nat → Prop} {W W1 W' : World}

section
variable {w : World} {ops : Array Oper} {o : Oper} {a : Act} {Q : Exit → Act → World → Prop} {K : Act → World → Prop} {E : Prop}
theorem step_dg' (hgd : o.guard = none) (x y : Operand)
    (ho : o.op = .call { callee := .builtin .append, args := #[x, y], argTypes := #[30, 30] }) (p g : Nat) (v : Value) (xs : List Value) (f t : Int) (n : Nat) (ba : Option Addr) (bl bc : Nat) (sp : Bool) (hx : a.eval x = v) (hy : a.eval y = .slice (some ⟨g, 0, none⟩) 1 1)
    (hv : w.ownsRow 0 39 5 v p xs) (hs : w.heap[g]? = some (.cells #[.int .i64 f, .int .i64 t, .int .u64 (n : Int), .slice ba bl bc, .bool sp] 39 (0, 0))) (hlen : p ≤ 50000)
    (h : ∀ a' cap w', w'.ownsRow 0 39 5 (.slice a' (p + 1) cap) (p + 1) (xs ++ [.int .i64 f, .int .i64 t, .int .u64 (n : Int), .slice ba bl bc, .bool sp]) → Loc v w (.slice a' (p + 1) cap) w' → K (a.put o.dst (.slice a' (p + 1) cap)) w') :
    if Region.wanted o (yielded ops a.tmps) = true then Oper.wp Try.prog o a w K Q else E :=
  step_x hgd x y ho p 1 v _ xs _ hx hy hv (.inr ⟨⟨g, 0, none⟩, 1, rfl, rfl, fun j u hu => by
    rw [Addr.add_lit, Nat.zero_add]
    simp only [World.cell?, hs]
    simpa using hu⟩) (fun u hu => by
      simp only [List.mem_cons, List.not_mem_nil, or_false] at hu
      rcases hu with rfl | rfl | rfl | rfl | rfl <;> rfl) (by omega) h
end
set_option maxRecDepth 20000 in
set_option maxHeartbeats 800000 in
theorem put_full (W : World) (nodes : Int) (sent : Nat) (wa : Option Addr) (wc : Nat) (ba : Option Addr) (bl bc : Nat) (lost : Nat) (f t : Int) (n : Nat) (a : Option Addr) (m c : Nat) (sp : Bool) (hlo : (lost : Int) ≤ 1000000000) :
    Calls Try.prog 29 #[rv nodes sent (.slice wa 1024 wc) (.slice ba bl bc) lost, dv f t n (.slice a m c) sp] W fun e w' => e = .returned (rv nodes sent (.slice wa 1024 wc) (.slice ba bl bc) (lost + 1)) ∧ G0 W w' := by
  go_enter Try.func29, Try.ntmps29
  go_wp2
  exact bodyPost_ret (v := rv nodes sent (.slice wa 1024 wc) (.slice ba bl bc) (lost + 1)) (by simp [results, Try.results29, go_sem]) rfl ⟨rfl, by exact (Gr.alloc _ _ _).trans ((Gr.alloc _ _ _).trans (Gr.alloc _ _ _))⟩
set_option maxRecDepth 20000 in
set_option maxHeartbeats 1600000 in
theorem put_room (W : World) (nodes : Int) (sent : Nat) (wv : Value) (l : List Dx) (ba : Option Addr) (bl bc : Nat) (lost : Nat) (f t : Int) (n : Nat) (bv : Value) (by' : List Nat) (sp : Bool) (h : Rg Y W wv l) (hl : (l.length : Int) < 1024) (hs : Sl W bv by') (hb : by'.length ≤ 1212) (hY : ∀ k, Y k → k < W.heap.size) :
    Calls Try.prog 29 #[rv nodes sent wv (.slice ba bl bc) lost, dv f t n bv sp] W fun e w' => ∃ wv' d, e = .returned (rv nodes sent wv' (.slice ba bl bc) lost) ∧ Rg (fun k => Y k ∨ W.heap.size ≤ k) w' wv' (l ++ [d]) ∧ abx d = (f, t, n, by', sp) ∧ G0 W w' := by
  obtain ⟨wa, wc, rfl, w1, w2⟩ := ownsRow_sv h.row
  obtain ⟨da, dc, rfl⟩ : ∃ a cap, bv = .slice a by'.length cap := by
    rcases hs.at' with ⟨rfl, rfl⟩ | ⟨a, cap, rfl, h1, h2, h3⟩
    · exact ⟨_, _, rfl⟩
    · exact ⟨_, _, rfl⟩
  obtain ⟨W4, hW4⟩ : ∃ W4, (((W.alloc (.cells #[.int .i64 nodes, .int .u64 (sent : Int), .slice wa l.length wc, .slice ba bl bc, .int .i64 (lost : Int)] 32)).alloc (.cells #[.int .i64 f, .int .i64 t, .int .u64 (n : Int), .slice da by'.length dc, .bool sp] 39)).alloc (.cells #[.int .i64 0, .int .u64 0, nl, nl, .int .i64 0] 32)).alloc (.cells #[] 5) = W4 := ⟨_, rfl⟩
  have b0 : W4.heap[W.heap.size]? = some (.cells #[.int .i64 nodes, .int .u64 (sent : Int), .slice wa l.length wc, .slice ba bl bc, .int .i64 (lost : Int)] 32 (0, 0)) := by
    rw [← hW4, heap_alloc_old _ _ (by simp; omega), heap_alloc_old _ _ (by simp; omega), heap_alloc_old _ _ (by simp), heap_alloc_new]
  have b1 : W4.heap[W.heap.size + 1]? = some (.cells #[.int .i64 f, .int .i64 t, .int .u64 (n : Int), .slice da by'.length dc, .bool sp] 39 (0, 0)) := by
    rw [← hW4, heap_alloc_old _ _ (by simp), heap_alloc_old _ _ (by simp)]
    have := heap_alloc_new (W.alloc (.cells #[.int .i64 nodes, .int .u64 (sent : Int), .slice wa l.length wc, .slice ba bl bc, .int .i64 (lost : Int)] 32)) (.cells #[.int .i64 f, .int .i64 t, .int .u64 (n : Int), .slice da by'.length dc, .bool sp] 39)
    rw [size_alloc] at this; exact this
  have b2 : W4.heap[W.heap.size + 1 + 1]? = some (.cells #[.int .i64 0, .int .u64 0, nl, nl, .int .i64 0] 32 (0, 0)) := by
    rw [← hW4, heap_alloc_old _ _ (by simp)]
    have := heap_alloc_new ((W.alloc (.cells #[.int .i64 nodes, .int .u64 (sent : Int), .slice wa l.length wc, .slice ba bl bc, .int .i64 (lost : Int)] 32)).alloc (.cells #[.int .i64 f, .int .i64 t, .int .u64 (n : Int), .slice da by'.length dc, .bool sp] 39)) (.cells #[.int .i64 0, .int .u64 0, nl, nl, .int .i64 0] 32)
    rw [size_alloc, size_alloc] at this; exact this
  have b3 : W4.heap[W.heap.size + 1 + 1 + 1]? = some (.cells #[] 5 (0, 0)) := by
    rw [← hW4]
    have := heap_alloc_new (((W.alloc (.cells #[.int .i64 nodes, .int .u64 (sent : Int), .slice wa l.length wc, .slice ba bl bc, .int .i64 (lost : Int)] 32)).alloc (.cells #[.int .i64 f, .int .i64 t, .int .u64 (n : Int), .slice da by'.length dc, .bool sp] 39)).alloc (.cells #[.int .i64 0, .int .u64 0, nl, nl, .int .i64 0] 32)) (.cells #[] 5)
    rw [size_alloc, size_alloc, size_alloc] at this; exact this
  have g4 : G0 W W4 := by rw [← hW4]; exact (((Gr.alloc _ _ _).trans (Gr.alloc _ _ _)).trans (Gr.alloc _ _ _)).trans (Gr.alloc _ _ _)
  have s4 : W4.heap.size = W.heap.size + 4 := by rw [← hW4]; simp
  obtain ⟨p0, p1, p2, p3, p4, _⟩ := five b0
  obtain ⟨q0, q1, q2, q3, q4, q5, q6, q7, q8, q9⟩ := five b1
  have Hg4 := Lib.hid g4
  have Hs4 := Lib.hid (hs.g0 g4)
  have B0 := Lib.hid b0
  have B1 := Lib.hid b1
  have B2 := Lib.hid b2
  have B3 := Lib.hid b3
  have S4 := Lib.hid s4
  have Hh := Lib.hid h
  have HY := Lib.hid hY
  have Hb := Lib.hid hb
  clear g4 hs b0 b1 b2 b3 s4 h hY
  go_enter Try.func29, Try.ntmps29
  go_wp2_with (first
    | (at_builtin; refine wpList_appb _ rfl _ _ rfl (W.heap.size + 1 + 1 + 1) (.slice da by'.length dc) by' rfl rfl B3.out Hs4.out ?_; intro g5 cap5 w5 hO5 hG5 hl5; have x1 := (hG5.block _ (lt_of_blk B1.out) (by omega)).trans B1.out; obtain ⟨q05, q15, q25, q35, q45, f05, f15, f25, f35, f45⟩ := five x1; have HO5 := Lib.hid hO5; have HG5 := Lib.hid hG5; have Hl5 := Lib.hid hl5; clear hO5 hG5 hl5 x1))
  generalize hW6 : World.setCell w5 _ _ = w6
  have hg5 : W.heap.size + 1 + 1 + 1 ≤ g5 := by have := S4.out; rcases Hl5.out with e | e <;> omega
  have G5 : G0 W w5 := Hg4.out.trans' HG5.out (fun i hi e => by omega)
  have G6 : G0 W w6 := by rw [← hW6]; exact G5.cell _ _ (.inr (by simp))
  have c0 : w6.heap[W.heap.size]? = some (.cells #[.int .i64 nodes, .int .u64 (sent : Int), .slice wa l.length wc, .slice ba bl bc, .int .i64 (lost : Int)] 32 (0, 0)) := by rw [← hW6]; exact (heap_setCell_other _ _ _ _ (by simp)).trans ((HG5.out.block _ (lt_of_blk B0.out) (by omega)).trans B0.out)
  have c1 : w6.heap[W.heap.size + 1]? = some (.cells #[.int .i64 f, .int .i64 t, .int .u64 (n : Int), .slice (some ⟨g5, 0, none⟩) by'.length cap5, .bool sp] 39 (0, 0)) := by rw [← hW6]; exact heap_setCell_same w5 (W.heap.size + 1) 3 _ 39 _ ((HG5.out.block _ (lt_of_blk B1.out) (by omega)).trans B1.out)
  have c2 : w6.heap[W.heap.size + 1 + 1]? = some (.cells #[.int .i64 0, .int .u64 0, nl, nl, .int .i64 0] 32 (0, 0)) := by rw [← hW6]; exact (heap_setCell_other _ _ _ _ (by simp)).trans ((HG5.out.block _ (lt_of_blk B2.out) (by omega)).trans B2.out)
  have sl6 : Sl w6 (.slice (some ⟨g5, 0, none⟩) by'.length cap5) by' := by rw [← hW6]; exact HO5.out.sl.gr (Gr.set (S := fun k => k = W.heap.size + 1) w5 _ _ rfl) (fun b off len cap e e2 => by cases e; omega)
  have hsz6 : w6.heap.size = w5.heap.size := by rw [← hW6]; simp
  clear hW6
  obtain ⟨r0, r1, r2, r3, r4, _⟩ := five c0
  obtain ⟨t0, t1, t2, t3, t4, _⟩ := five c1
  have G6' := Lib.hid G6
  have C0 := Lib.hid c0
  have C1 := Lib.hid c1
  have C2 := Lib.hid c2
  have Sl6 := Lib.hid sl6
  have Hg5 := Lib.hid hg5
  have Hg5l : Hid (g5 < w6.heap.size) := Lib.hid (by have h1 := HO5.out.by_.lt; have h2 : w6.heap.size = w5.heap.size := hsz6; omega)
  have hlt6 : W.heap.size + 1 + 1 < w6.heap.size := lt_of_blk c2
  have hlt6a : W.heap.size < w6.heap.size := by omega
  have hlt6b : W.heap.size + 1 < w6.heap.size := by omega
  obtain ⟨E, hE⟩ : ∃ E, Obj.cells #[] 39 = E := ⟨_, rfl⟩
  obtain ⟨D, hD⟩ : ∃ D, Obj.cells #[.int .i64 f, .int .i64 t, .int .u64 (n : Int), .slice (some ⟨g5, 0, none⟩) by'.length cap5, .bool sp] 39 = D := ⟨_, rfl⟩
  have gA : Hid (G0 w6 (w6.alloc E).drew) := Lib.hid ((Gr.alloc _ _ _).trans (Gr.drew _ _))
  have gB : Hid (G0 w6 ((w6.alloc E).alloc D).drew) := Lib.hid (((Gr.alloc _ _ _).trans (Gr.alloc _ _ _)).trans (Gr.drew _ _))
  have gC : Hid (G0 w6 ((w6.alloc D).alloc E).drew) := Lib.hid (((Gr.alloc _ _ _).trans (Gr.alloc _ _ _)).trans (Gr.drew _ _))
  have eA : Hid ((w6.alloc E).drew.heap[w6.heap.size]? = some E) := Lib.hid (heap_alloc_new w6 _)
  have eB : Hid (((w6.alloc E).alloc D).drew.heap[w6.heap.size]? = some E) := Lib.hid ((heap_alloc_old (w6.alloc E) D (by rw [size_alloc]; omega)).trans (heap_alloc_new w6 _))
  have dB : Hid (((w6.alloc E).alloc D).drew.heap[w6.heap.size + 1]? = some D) := Lib.hid (by have := heap_alloc_new (w6.alloc E) D; rw [size_alloc] at this; exact this)
  have eC : Hid (((w6.alloc D).alloc E).drew.heap[w6.heap.size + 1]? = some E) := Lib.hid (by have := heap_alloc_new (w6.alloc D) E; rw [size_alloc] at this; exact this)
  have dC : Hid (((w6.alloc D).alloc E).drew.heap[w6.heap.size]? = some D) := Lib.hid ((heap_alloc_old (w6.alloc D) E (by rw [size_alloc]; omega)).trans (heap_alloc_new w6 _))
  rw [← hE] at gA eA
  rw [← hE, ← hD] at gB gC eB dB eC dC
  clear hE hD
  have Hsrc := Lib.hid ((src_row Hh.out.row).g0 G6'.out)
  -- behind the first append
  have aft : Hid (∀ (w w7 : World) (X : Nat) (v' : Value), G0 w6 w → w6.heap.size ≤ X → Loc (.slice (some ⟨X, 0, none⟩) 0 0) w v' w7 → G0 w6 w7 ∧ ∀ k, k < w.heap.size → k ≠ X → w7.heap[k]? = w.heap[k]?) := Lib.hid (fun w w7 X v' g hX hl => ⟨g.trans' hl.gr (fun i hi e => by have e2 : X = i := (by simpa [Value.ownBlock] using e); omega), fun k hk hne => hl.gr.block k hk (fun e => by cases e; exact hne rfl)⟩)
  have own7 : Hid (∀ (w w7 : World) (X : Nat) (v' : Value), G0 w6 w → w6.heap.size ≤ X → Loc (.slice (some ⟨X, 0, none⟩) 0 0) w v' w7 → ∀ k, v'.ownBlock = some k → w6.heap.size ≤ k) := Lib.hid (fun w w7 X v' g hX hl k e => (hl.at_ k e).elim (fun e => by cases e; exact hX) (fun e => Nat.le_trans g.size e))
  clear c0 c1 c2 sl6 G6 G5 hg5 hsz6
  go_region_law (first
    | (refine step_x rfl _ _ rfl 0 l.length (.slice (some ⟨w6.heap.size, 0, none⟩) 0 0) (.slice wa l.length wc) [] (flatX l) rfl rfl (empty_row _ eA.out) (Hsrc.out.g0 gA.out) flatX_one (by omega) ?_; intro a7 cap7 w7 hr7 hl7; have Hr7 : Hid (w7.ownsRow 0 39 5 (.slice a7 l.length cap7) l.length (flatX l)) := Lib.hid (by simpa using hr7); have A7 := aft.out _ _ _ _ gA.out (Nat.le_refl _) hl7; have O7 : Hid (∀ k, (Value.slice a7 l.length cap7).ownBlock = some k → w6.heap.size ≤ k) := Lib.hid (fun k e => own7.out _ _ _ _ gA.out (Nat.le_refl _) hl7 k (by cases a7 <;> exact e)); have G7 := Lib.hid A7.1; obtain ⟨r07, r17, r27, r37, r47, _, _, u27, _, _⟩ := five ((A7.1.block _ hlt6a (fun e => e)).trans C0.out); obtain ⟨t07, t17, t27, t37, t47, _⟩ := five ((A7.1.block _ hlt6b (fun e => e)).trans C1.out); have hz7 : w6.heap.size ≤ w7.heap.size := A7.1.size; clear hr7 hl7 A7)
    | (refine step_x rfl _ _ rfl 0 l.length (.slice (some ⟨w6.heap.size, 0, none⟩) 0 0) (.slice wa l.length wc) [] (flatX l) rfl rfl (empty_row _ eB.out) (Hsrc.out.g0 gB.out) flatX_one (by omega) ?_; intro a7 cap7 w7 hr7 hl7; have Hr7 : Hid (w7.ownsRow 0 39 5 (.slice a7 l.length cap7) l.length (flatX l)) := Lib.hid (by simpa using hr7); have A7 := aft.out _ _ _ _ gB.out (Nat.le_refl _) hl7; have O7 : Hid (∀ k, (Value.slice a7 l.length cap7).ownBlock = some k → w6.heap.size ≤ k) := Lib.hid (fun k e => own7.out _ _ _ _ gB.out (Nat.le_refl _) hl7 k (by cases a7 <;> exact e)); have G7 := Lib.hid A7.1; have D7b := Lib.hid ((A7.2 (w6.heap.size + 1) (lt_of_blk dB.out) (by omega)).trans dB.out); obtain ⟨r07, r17, r27, r37, r47, _, _, u27, _, _⟩ := five ((A7.1.block _ hlt6a (fun e => e)).trans C0.out); have hz7 : w6.heap.size ≤ w7.heap.size := A7.1.size; clear hr7 hl7 A7)
    | (refine step_x rfl _ _ rfl 0 l.length (.slice (some ⟨w6.heap.size + 1, 0, none⟩) 0 0) (.slice wa l.length wc) [] (flatX l) rfl rfl (empty_row _ eC.out) (Hsrc.out.g0 gC.out) flatX_one (by omega) ?_; intro a7 cap7 w7 hr7 hl7; have Hr7 : Hid (w7.ownsRow 0 39 5 (.slice a7 l.length cap7) l.length (flatX l)) := Lib.hid (by simpa using hr7); have A7 := aft.out _ _ _ _ gC.out (Nat.le_succ _) hl7; have O7 : Hid (∀ k, (Value.slice a7 l.length cap7).ownBlock = some k → w6.heap.size ≤ k) := Lib.hid (fun k e => own7.out _ _ _ _ gC.out (Nat.le_succ _) hl7 k (by cases a7 <;> exact e)); have G7 := Lib.hid A7.1; have D7c := Lib.hid ((A7.2 w6.heap.size (lt_of_blk dC.out) (by omega)).trans dC.out); obtain ⟨r07, r17, r27, r37, r47, _, _, u27, _, _⟩ := five ((A7.1.block _ hlt6a (fun e => e)).trans C0.out); have hz7 : w6.heap.size ≤ w7.heap.size := A7.1.size; clear hr7 hl7 A7)
    | (refine step_dg' rfl _ _ rfl l.length w7.heap.size (.slice a7 l.length cap7) (flatX l) f t n (some ⟨g5, 0, none⟩) by'.length cap5 sp rfl rfl (Hr7.out.alloc _) (heap_alloc_new w7 _) (by omega) ?_; intro a8 cap8 w8 hr8 hl8; have Hr8 := Lib.hid hr8; have G8 : Hid (Gr (fun k => w6.heap.size ≤ k) w6 w8) := Lib.hid (((G7.out.trans (Gr.alloc w7 _ _)).of0).trans' hl8.gr (fun i hi e => O7.out i e)); have O8 : Hid (∀ k, (Value.slice a8 (l.length + 1) cap8).ownBlock = some k → w6.heap.size ≤ k) := Lib.hid (fun k e => (hl8.at_ k e).elim (O7.out k) (fun e => Nat.le_trans hz7 (Nat.le_trans (Nat.le_succ _) (by simpa using e)))); obtain ⟨r08, r18, r28, r38, r48, _, _, u28, _, _⟩ := five ((G8.out.block _ hlt6a (by omega)).trans C0.out); clear hr8 hl8)
    | (refine step_dg' rfl _ _ rfl l.length (w6.heap.size + 1) (.slice a7 l.length cap7) (flatX l) f t n (some ⟨g5, 0, none⟩) by'.length cap5 sp rfl rfl Hr7.out D7b.out (by omega) ?_; intro a8 cap8 w8 hr8 hl8; have Hr8 := Lib.hid hr8; have G8 : Hid (Gr (fun k => w6.heap.size ≤ k) w6 w8) := Lib.hid ((G7.out.of0).trans' hl8.gr (fun i hi e => O7.out i e)); have O8 : Hid (∀ k, (Value.slice a8 (l.length + 1) cap8).ownBlock = some k → w6.heap.size ≤ k) := Lib.hid (fun k e => (hl8.at_ k e).elim (O7.out k) (fun e => Nat.le_trans hz7 e)); obtain ⟨r08, r18, r28, r38, r48, _, _, u28, _, _⟩ := five ((G8.out.block _ hlt6a (by omega)).trans C0.out); clear hr8 hl8)
    | (refine step_dg' rfl _ _ rfl l.length w6.heap.size (.slice a7 l.length cap7) (flatX l) f t n (some ⟨g5, 0, none⟩) by'.length cap5 sp rfl rfl Hr7.out D7c.out (by omega) ?_; intro a8 cap8 w8 hr8 hl8; have Hr8 := Lib.hid hr8; have G8 : Hid (Gr (fun k => w6.heap.size ≤ k) w6 w8) := Lib.hid ((G7.out.of0).trans' hl8.gr (fun i hi e => O7.out i e)); have O8 : Hid (∀ k, (Value.slice a8 (l.length + 1) cap8).ownBlock = some k → w6.heap.size ≤ k) := Lib.hid (fun k e => (hl8.at_ k e).elim (O7.out k) (fun e => Nat.le_trans hz7 e)); obtain ⟨r08, r18, r28, r38, r48, _, _, u28, _, _⟩ := five ((G8.out.block _ hlt6a (by omega)).trans C0.out); clear hr8 hl8)
    | fail)
  all_goals
    have c29 := (heap_setCell_other w8 ⟨W.heap.size, 2, none⟩ (W.heap.size + 1 + 1) (.slice a8 (l.length + 1) cap8) (by simp; omega)).trans ((G8.out.block _ hlt6 (by omega)).trans C2.out)
    have c09 := heap_setCell_same w8 W.heap.size 2 _ 32 (.slice a8 (l.length + 1) cap8) ((G8.out.block _ hlt6a (by omega)).trans C0.out)
    generalize hw9 : World.setCell w8 ⟨W.heap.size, 2, none⟩ (.slice a8 (l.length + 1) cap8) = w9 at c29 c09 ⊢
    have g9 : Gr (fun k => k = W.heap.size ∨ k = W.heap.size + 1 + 1 ∨ w6.heap.size ≤ k) w6 w9 := by rw [← hw9]; exact (G8.out.mono (fun i _ e => .inr (.inr e))).cell _ _ (.inl (.inl rfl))
    have r9 : w9.ownsRow 0 39 5 (.slice a8 (l.length + 1) cap8) (l.length + 1) (flatX l ++ [.int .i64 f, .int .i64 t, .int .u64 (n : Int), .slice (some ⟨g5, 0, none⟩) by'.length cap5, .bool sp]) := by rw [← hw9]; exact ownsRow_of_block Hr8.out (fun k e => heap_setCell_other _ _ _ _ (by have := O8.out k e; simp; omega))
    have R9 := Lib.hid r9
    have G9 := Lib.hid g9
    obtain ⟨x0, x1, x2, x3, x4, x5, x6, x7, x8, x9⟩ := five c29
    obtain ⟨y0, y1, y2, y3, y4, _⟩ := five c09
    clear hw9 g9 r9 c29 c09
    go_wp2
    refine bodyPost_ret (v := rv nodes sent (.slice a8 (l.length + 1) cap8) (.slice ba bl bc) lost) (by simp [results, Try.results29, go_sem, x0, x1, x2, x3, x4]) rfl ?_
    have gE := G9.out.cell5 (W.heap.size + 1 + 1) (.int .i64 nodes) (.int .u64 (sent : Int)) (.slice a8 (l.length + 1) cap8) (.slice ba bl bc) (.int .i64 (lost : Int)) (.inl (.inr (.inl rfl)))
    have gW := G6'.out.trans' gE (fun i hi e => by omega)
    refine ⟨_, ⟨f, t, n, some ⟨g5, 0, none⟩, cap5, by', sp⟩, rfl, ⟨?_, fun k e => ?_, fun d hd => ?_⟩, rfl, gW⟩
    · rw [flatX_append, List.length_append]
      exact ownsRow_of_block R9.out (fun k e => five_old _ _ _ _ _ _ (by have := O8.out k e; omega))
    · exact .inr (by have := O8.out k e; omega)
    · rcases List.mem_append.1 hd with hd | hd
      · have h1 := (Hh.out.byt d hd).keep (W' := _) (fun k hk => gW.block k (HY.out k hk) (fun e => e))
        exact ⟨h1.1, fun b off e => (h1.2.1 b off e).imp id .inl, h1.2.2⟩
      · rw [List.mem_singleton] at hd
        subst hd
        refine ⟨Sl6.out.gr gE (fun b off len cap e e2 => ?_), fun b off e => .inr (.inr ?_), Hb.out⟩
        · cases e
          have := Hg5.out
          have hlt : g5 < w6.heap.size := Hg5l.out
          omega
        · cases e; have := Hg5.out; omega
end Go.Proofs.Ytjffhnpoipolfaa
