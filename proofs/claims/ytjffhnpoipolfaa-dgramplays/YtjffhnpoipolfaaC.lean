/-
  another, without.
-/
import Derived.Test.YtjffhnpoipolfaaB
import Derived.Deep.RegionWith
import Derived.Deep.RegionHeld3
import Derived.BigRegion
import Derived.OpenShut
import Derived.RegionTactic
import Derived.Stop.RegionWithIn
import Derived.Deep.RegionLaw
import Derived.Laws.MakeOwn
set_option linter.unusedVariables false
set_option linter.unusedSimpArgs false
namespace Go.Proofs.Ytjffhnpoipolfaa
open Go.RowKit Go.Maps Go.WideMaps
variable {S S' : Nat → Prop} {W W1 W' : World}

theorem info5 : (Try.prog.info? 5).map (fun i => (i.zero, i.size, i.bytes)) = some (some (.int .u8 0), 1, 1) := by kernel_rfl
theorem info39 : (Try.prog.info? 39).map (fun i => (i.zero, i.size, i.bytes)) = some (some (dv 0 0 0 nl false), 5, 56) := by kernel_rfl
theorem mk34 (n : Nat) (hn : n ≤ 1212) : ∃ M : Array Value, M.size = n ∧ ∀ W : World, (Instr.makeSlice 34 (.int .i64 (n : Int)) (.int .i64 (n : Int))).run Try.prog W = .ok (.slice (some ⟨W.heap.size, 0, none⟩) n n) (W.alloc (.cells M 5)) := by
  obtain ⟨i0, hi, hz0, hz1, hz2⟩ := info_parts info5
  refine ⟨madeCells (Value.int .u8 0).cells n, ?_, fun W => ?_⟩
  · simp [madeCells]
  · have := run_makeSlice (P := Try.prog) (w := W) 34 5 i0 (.int .u8 0) Try.underlying34 hi hz0 .i64 .i64 n n (by omega) (Int.le_refl _) (by rw [hz1]; omega) (by rw [hz2]; omega) (by omega)
    rw [this, hz1]
    simp
theorem run_copy_nil' (w : World) (dT sT ty elem : TypeId) (a : Addr) (dLen dCap : Nat) (hu : Try.prog.underlying dT = some (.slice elem)) (hs : ((Try.prog.info? elem).map (·.size)).isSome = true) :
    (Builtin.copy_ #[dT, sT] ty #[.slice (some a) dLen dCap, .slice none 0 0]).run Try.prog w = .ok (goInt 0) w := run_copy_nil Try.prog w dT sT ty elem a dLen dCap hu hs
theorem copyB (w : World) (X : Nat) (M : Array Value) (ty : TypeId) (l : List Nat) (bv : Value) (hX : w.heap[X]? = some (.cells M 5 (0, 0))) (hM : M.size = l.length) (hs : Sl w bv l) :
    (Builtin.copy_ #[34, 34] ty #[.slice (some ⟨X, 0, none⟩) l.length l.length, bv]).run Try.prog w = .ok (goInt l.length) (w.setRow X (bs l).toArray) := by
  rcases hs.at' with ⟨rfl, rfl⟩ | ⟨a, cap, rfl, h1, h2, h3⟩
  · have : M = #[] := Array.size_eq_zero_iff.1 hM
    subst this
    rw [run_copy_nil' w 34 34 ty 5 _ _ _ Try.underlying34 (by rw [size5]; rfl)]
    congr 1
    exact (setRow_self w X #[] 5 (0, 0) hX).symm
  · have := run_copy_wide w 34 34 ty 5 1 X 0 l.length l.length a l.length cap M 5 (bs l) Try.underlying34 size5 hX (by simp [Nat.min_def]) (fun j u hj => by
        have hjm : j < l.length := by simpa using (List.getElem?_eq_some_iff.1 hj).1
        rw [bs_get l j hjm] at hj
        rw [← hj]; exact h3 j hjm) (by simp [hM]) (fun u hu => by obtain ⟨x, _, rfl⟩ := List.mem_map.1 hu; rfl)
    rw [this]
    congr 1
    · simp [Nat.min_def]
    · congr 1
      rw [List.take_zero, List.nil_append, List.drop_of_length_le (by simp [hM]), List.append_nil]
theorem setRow_old (w : World) (X k : Nat) (c : Array Value) (h : k ≠ X) : (w.setRow X c).heap[k]? = w.heap[k]? := by
  simp only [World.setRow, Array.getElem?_modify]; simp [Ne.symm h]
theorem set5 {b : Nat} {a0 a1 a2 a3 a4 v0 v1 v2 v3 v4 : Value} {t : TypeId} (h : W.heap[b]? = some (.cells #[a0, a1, a2, a3, a4] t (0, 0))) :
    (((((W.setCell ⟨b, 0, none⟩ v0).setCell ⟨b, 1, none⟩ v1).setCell ⟨b, 2, none⟩ v2).setCell ⟨b, 3, none⟩ v3).setCell ⟨b, 4, none⟩ v4).heap[b]? = some (.cells #[v0, v1, v2, v3, v4] t (0, 0)) := by
  have h0 := heap_setCell_same W b 0 _ t v0 h
  have h1 := heap_setCell_same _ b 1 _ t v1 h0
  have h2 := heap_setCell_same _ b 2 _ t v2 h1
  have h3 := heap_setCell_same _ b 3 _ t v3 h2
  exact heap_setCell_same _ b 4 _ t v4 h3
theorem Gr.cell (h : Gr S W W1) (p : Addr) (v : Value) (hp : S p.block ∨ W.heap.size ≤ p.block) : Gr S W (W1.setCell p v) :=
  h.trans' (Gr.set (S := fun k => k = p.block) W1 p v rfl) (fun i hi e => hp.elim (fun h => e ▸ h) (fun h => by omega))
theorem Gr.cell5 (h : Gr S W W1) (b : Nat) (v0 v1 v2 v3 v4 : Value) (hp : S b ∨ W.heap.size ≤ b) : Gr S W (((((W1.setCell ⟨b, 0, none⟩ v0).setCell ⟨b, 1, none⟩ v1).setCell ⟨b, 2, none⟩ v2).setCell ⟨b, 3, none⟩ v3).setCell ⟨b, 4, none⟩ v4) :=
  ((((h.cell _ _ hp).cell _ _ hp).cell _ _ hp).cell _ _ hp).cell _ _ hp
theorem five_old (W : World) {b k : Nat} (v0 v1 v2 v3 v4 : Value) (h : k ≠ b) : (((((W.setCell ⟨b, 0, none⟩ v0).setCell ⟨b, 1, none⟩ v1).setCell ⟨b, 2, none⟩ v2).setCell ⟨b, 3, none⟩ v3).setCell ⟨b, 4, none⟩ v4).heap[k]? = W.heap[k]? :=
  ((((heap_setCell_other _ ⟨b, 4, none⟩ k v4 h).trans (heap_setCell_other _ ⟨b, 3, none⟩ k v3 h)).trans (heap_setCell_other _ ⟨b, 2, none⟩ k v2 h)).trans (heap_setCell_other _ ⟨b, 1, none⟩ k v1 h)).trans (heap_setCell_other _ ⟨b, 0, none⟩ k v0 h)
set_option maxHeartbeats 800000 in
theorem another_c (W : World) (f t : Int) (n : Nat) (bv : Value) (l : List Nat) (sp : Bool) (h : Sl W bv l) (hl : l.length ≤ 1212) :
    Calls Try.prog 31 #[dv f t n bv sp] W fun e w' => ∃ bk, e = .returned (dv f t n (.slice (some ⟨bk, 0, none⟩) l.length l.length) sp) ∧ w'.heap[bk]? = some (.cells (bs l).toArray 5 (0, 0)) ∧ W.heap.size ≤ bk ∧ G0 W w' := by
  obtain ⟨M, hM, hmk⟩ := mk34 l.length hl
  obtain ⟨a, cap, e⟩ : ∃ a cap, bv = .slice a l.length cap := by
    rcases h.at' with ⟨rfl, rfl⟩ | ⟨a, cap, rfl, h1, h2, h3⟩
    · exact ⟨_, _, rfl⟩
    · exact ⟨_, _, rfl⟩
  subst e
  obtain ⟨W5, hW5⟩ : ∃ W5, (((W.alloc (.cells #[.int .i64 f, .int .i64 t, .int .u64 (n : Int), .slice a l.length cap, .bool sp] 39)).alloc (.cells #[.int .i64 0, .int .i64 0, .int .u64 0, nl, .bool false] 39)).alloc (.cells M 5)) = W5 := ⟨_, rfl⟩
  have b0 : W5.heap[W.heap.size]? = some (.cells #[.int .i64 f, .int .i64 t, .int .u64 (n : Int), .slice a l.length cap, .bool sp] 39 (0, 0)) := by
    rw [← hW5, heap_alloc_old _ _ (by simp; omega), heap_alloc_old _ _ (by simp), heap_alloc_new]
  have b1 : W5.heap[W.heap.size + 1]? = some (.cells #[.int .i64 0, .int .i64 0, .int .u64 0, nl, .bool false] 39 (0, 0)) := by
    rw [← hW5, heap_alloc_old _ _ (by simp)]; have := heap_alloc_new (W.alloc (.cells #[.int .i64 f, .int .i64 t, .int .u64 (n : Int), .slice a l.length cap, .bool sp] 39)) (.cells #[.int .i64 0, .int .i64 0, .int .u64 0, nl, .bool false] 39); simpa using this
  have b2 : W5.heap[W.heap.size + 1 + 1]? = some (.cells M 5 (0, 0)) := by
    rw [← hW5]; have := heap_alloc_new ((W.alloc (.cells #[.int .i64 f, .int .i64 t, .int .u64 (n : Int), .slice a l.length cap, .bool sp] 39)).alloc (.cells #[.int .i64 0, .int .i64 0, .int .u64 0, nl, .bool false] 39)) (.cells M 5); simpa using this
  have g5 : G0 W W5 := by rw [← hW5]; exact (Gr.alloc W _ _).trans ((Gr.alloc _ _ _).trans (Gr.alloc _ _ _))
  have hcp := copyB W5 (W.heap.size + 1 + 1) M 3 l (.slice a l.length cap) b2 hM (h.g0 g5)
  obtain ⟨W6, hW6⟩ : ∃ W6, W5.setRow (W.heap.size + 1 + 1) (bs l).toArray = W6 := ⟨_, rfl⟩
  rw [hW6] at hcp
  have d0 : W6.heap[W.heap.size]? = some (.cells #[.int .i64 f, .int .i64 t, .int .u64 (n : Int), .slice a l.length cap, .bool sp] 39 (0, 0)) := by rw [← hW6, setRow_old _ _ _ _ (by omega)]; exact b0
  have d1 : W6.heap[W.heap.size + 1]? = some (.cells #[.int .i64 0, .int .i64 0, .int .u64 0, nl, .bool false] 39 (0, 0)) := by rw [← hW6, setRow_old _ _ _ _ (by omega)]; exact b1
  have d2 : W6.heap[W.heap.size + 1 + 1]? = some (.cells (bs l).toArray 5 (0, 0)) := by rw [← hW6]; exact setRow_heap _ _ M _ 5 (0, 0) b2
  have g6 : G0 W W6 := by rw [← hW6]; exact g5.new (Gr.setRow (S := fun k => k = W.heap.size + 1 + 1) W5 _ _ rfl) (fun i e => .inr (by omega))
  have hs6 : W.heap.size + 3 ≤ W6.heap.size := by have := lt_of_blk d2; omega
  obtain ⟨p0, p1, p2, p3, p4, p5, p6, p7, p8, p9⟩ := five d0
  obtain ⟨q0, q1, q2, q3, q4, q5, q6, q7, q8, q9⟩ := five d1
  obtain ⟨r0, r1, r2, r3, r4, r5, r6, r7, r8, r9⟩ := five b0
  clear hW6 b0 b1 b2
  go_enter Try.func31, Try.ntmps31
  go_wp2
  refine bodyPost_ret (v := dv f t n (.slice (some ⟨W.heap.size + 1 + 1, 0, none⟩) l.length l.length) sp) (by simp [results, Try.results31, go_sem, q0, q1, q2, q3, q4]) rfl ?_
  refine ⟨_, rfl, ?_, by omega, ?_⟩
  · rw [five_old _ _ _ _ _ _ (by omega), heap_setCell_other _ _ _ _ (show W.heap.size + 1 + 1 ≠ W.heap.size by omega)]
    exact d2
  · exact (g6.cell _ _ (.inr (Nat.le_refl _))).cell5 _ _ _ _ _ _ (.inr (by omega))
end Go.Proofs.Ytjffhnpoipolfaa
