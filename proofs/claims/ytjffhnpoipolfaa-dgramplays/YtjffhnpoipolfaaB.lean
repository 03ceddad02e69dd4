/-
  The small calls of the program: New, has, refuses, another, without.
-/
import Derived.Test.YtjffhnpoipolfaaA
set_option linter.unusedVariables false
set_option linter.unusedSimpArgs false
namespace Go.Proofs.Ytjffhnpoipolfaa
open Go.RowKit Go.Maps Go.WideMaps
variable {S S' : Nat → Prop} {W W1 W' : World}

theorem run_copy_wide (w : World) (dT sT ty elem : TypeId) (sz g o dLen dCap : Nat) (a : Addr) (sLen sCap : Nat) (cur : Array Value) (t : TypeId) (cs : List Value)
    (hu : Try.prog.underlying dT = some (.slice elem)) (hs : (Try.prog.info? elem).map (·.size) = some sz)
    (hg : w.heap[g]? = some (.cells cur t (0, 0))) (hn : cs.length = Nat.min sLen dLen * sz)
    (hsrc : ∀ j v, cs[j]? = some v → w.cell? (a.add j) = some v) (hfit : o + cs.length ≤ cur.size) (h1 : ∀ v ∈ cs, v.oneCell' = true) :
    (Builtin.copy_ #[dT, sT] ty #[.slice (some ⟨g, o, none⟩) dLen dCap, .slice (some a) sLen sCap]).run Try.prog w =
      .ok (goInt (Nat.min sLen dLen)) (w.setRow g (cur.toList.take o ++ cs ++ cur.toList.drop (o + cs.length)).toArray) := by
  have hl := run_loadCells_list (P := Try.prog) w a cs hsrc
  have hst := run_storeCells_at Try.prog g o t cs 0 cur w hg (by simpa using hfit) h1
  cases hq : Try.prog.info? elem with
  | none => simp [hq] at hs
  | some i =>
    have hi : i.size = sz := by simpa [hq] using hs
    simp [Builtin.copy_, run_underlying hu, Builtin.lenOf, Builtin.firstCells, sizeOf, typeInfo, hq, hi, ← hn, hl, hst]
theorem size39 : (Try.prog.info? 39).map (·.size) = some 5 := by kernel_rfl
theorem size5 : (Try.prog.info? 5).map (·.size) = some 1 := by kernel_rfl
theorem Gr.setRow (W : World) (g : Nat) (c : Array Value) (h : S g) : Gr S W (W.setRow g c) :=
  ⟨rfl, rfl, rfl, by simp [World.setRow], fun k _ hn => by
    have : k ≠ g := fun e => hn (e ▸ h)
    simp only [World.setRow, Array.getElem?_modify]; simp [Ne.symm this]⟩
theorem wpList_copy (w : World) {ops : Array Oper} {rest : List Oper} {o : Oper} {a : Act} {Q : Exit → Act → World → Prop} (hgd : o.guard = none) (x y : Operand) (dT sT : TypeId)
    (ho : o.op = .call { callee := .builtin .copy, args := #[x, y], argTypes := #[dT, sT] }) (v1 v2 : Value) (hx : a.eval x = v1) (hy : a.eval y = v2) (v : Value) (w' : World)
    (hr : (Builtin.copy_ #[dT, sT] o.type #[v1, v2]).run Try.prog w = .ok v w') (h : wpList Try.prog ops Q rest (a.put o.dst v) w') :
    wpList Try.prog ops Q (o :: rest) a w := by
  refine wpList_plain hgd fun K hK => ?_
  unfold Oper.wp execOp
  simp only [ho, resolve, invoke, builtin, Sem.run_bind, Sem.run_pure, Result.andThen_ok, List.map_toArray, List.map_cons, List.map_nil, hx, hy, hr]
  exact hK _ _ h

def nod (n nodes : Int) : Bool := decide (1 ≤ n) && decide (n ≤ nodes)
theorem five {W : World} {b : Nat} {v0 v1 v2 v3 v4 : Value} {t : TypeId} (h : W.heap[b]? = some (.cells #[v0, v1, v2, v3, v4] t (0, 0))) :
    W.cell? ⟨b, 0, none⟩ = some v0 ∧ W.cell? ⟨b, 1, none⟩ = some v1 ∧ W.cell? ⟨b, 2, none⟩ = some v2 ∧ W.cell? ⟨b, 3, none⟩ = some v3 ∧ W.cell? ⟨b, 4, none⟩ = some v4 ∧
    W.frozen? ⟨b, 0, none⟩ = false ∧ W.frozen? ⟨b, 1, none⟩ = false ∧ W.frozen? ⟨b, 2, none⟩ = false ∧ W.frozen? ⟨b, 3, none⟩ = false ∧ W.frozen? ⟨b, 4, none⟩ = false := by
  simp [World.cell?, World.frozen?, h]
theorem has_c (W : World) (s : Ns) (h : Nt W s) (n : Int) : Calls Try.prog 32 #[pt s.p, .int .i64 n] W fun e w' => e = .returned (.bool (nod n s.nodes)) ∧ W = w' := by
  obtain ⟨c0, c1, c2, c3, c4, _⟩ := five h.blk
  unfold nod
  by_cases h1 : 1 ≤ n <;> by_cases h2 : n ≤ s.nodes <;> simp only [h1, h2, decide_true, decide_false, Bool.and_true, Bool.and_false]
  all_goals (go_enter Try.func32, Try.ntmps32; go_wp2; go_ret; exact ⟨rfl, rfl⟩)
def ref (i : Int) (n : Nat) : Int := if i < 0 ∨ (n : Int) ≤ i then 92 else 0
theorem refuses_nil (W : World) (i : Int) : Calls Try.prog 34 #[.pointer none, .int .i64 i] W fun e w' => e = .returned (.int .i64 1) ∧ W = w' := by
  go_enter Try.func34, Try.ntmps34; go_wp2; go_ret; exact ⟨rfl, rfl⟩
theorem refuses_c (W : World) (s : Ns) (h : Nt W s) (i : Int) : Calls Try.prog 34 #[pt s.p, .int .i64 i] W fun e w' => e = .returned (.int .i64 (ref i (s.q none).length)) ∧ W = w' := by
  obtain ⟨c0, c1, c2, c3, c4, _⟩ := five h.blk
  obtain ⟨a, cap, e, h1, h2⟩ := ownsRow_sv (h.row none)
  rw [e] at c3
  have hl := h.wl
  generalize (s.q none).length = n at *
  unfold ref
  by_cases i1 : i < 0
  · rw [if_pos (.inl i1)]
    go_enter Try.func34, Try.ntmps34; go_wp2; go_ret; exact ⟨rfl, rfl⟩
  by_cases i2 : (n : Int) ≤ i
  · rw [if_pos (.inr i2)]
    go_enter Try.func34, Try.ntmps34; go_wp2; go_ret; exact ⟨rfl, rfl⟩
  · rw [if_neg (by omega)]
    go_enter Try.func34, Try.ntmps34; go_wp2; go_ret; exact ⟨rfl, rfl⟩

/-! ### New -/
def ns0 (p mb : Nat) (nodes : Int) : Ns := { p := p, mb := mb, nodes := nodes, sent := 0, lost := 0, z := 0, R := fun _ => nl, q := fun _ => [] }
theorem new_bad (W : World) (n : Int) (h : nod n 64 = false) : Calls Try.prog 9 #[.int .i64 n] W fun e w' => e = .returned (.tuple #[.pointer none, .int .i64 90]) ∧ W = w' := by
  by_cases h1 : n < 1
  · go_enter Try.func9, Try.ntmps9; go_wp2; go_ret2; exact ⟨rfl, rfl⟩
  · have h2 : 64 < n := by simp [nod] at h; omega
    go_enter Try.func9, Try.ntmps9; go_wp2; go_ret2; exact ⟨rfl, rfl⟩
theorem new_c (W : World) (n : Int) (h : nod n 64 = true) : Calls Try.prog 9 #[.int .i64 n] W fun e w' => ∃ s, e = .returned (.tuple #[pt s.p, .int .i64 0]) ∧ Nt w' s ∧ G0 W w' ∧ s = ns0 s.p s.mb n ∧ ∀ k, Fp s k → W.heap.size ≤ k := by
  have h1 : 1 ≤ n := by simp [nod] at h; omega
  have h2 : n ≤ 64 := by simp [nod] at h; omega
  have hmm := @run_makeMap Try.prog
  go_enter Try.func9, Try.ntmps9
  go_wp2
  go_ret2
  refine ⟨ns0 (W.heap.size + 1) W.heap.size n, ?_, ?_, ?_, rfl, ?_⟩
  · simp [ns0]
  · have hmk := World.ownsMap_made (H := Value) W Try.prog 3 RR
    exact { blk := by have := heap_alloc_new (W.alloc (.map #[] 0)) (.cells #[.int .i64 n, .int .u64 0, .int .i64 0, nl, .map (some W.heap.size)] 60 (0, 0)); simpa [ns0] using this
            map := by
              refine ⟨.map [], ?_, fun k _ => rfl⟩
              obtain ⟨es, c, e1, e2⟩ := hmk
              exact ⟨es, c, (heap_alloc_old _ _ (lt_of_blk e1)).trans e1, e2⟩
            row := fun i => World.ownsRow_nil _ _ _ _, byt := fun i d hd => (by cases hd), inj := fun i j g e => (by cases e), nod := fun i => List.nodup_nil, uni := fun i j _ d hd => by cases hd
            wl := by simp [ns0], bl := fun k => by simp [ns0], ok := fun i d hd => (by cases hd), bx := fun k d hd => (by cases hd), nd := ⟨h1, h2⟩, sm := ⟨Nat.le_refl _, by simp [ns0]⟩ }
  · exact (Gr.alloc W _ _).trans (Gr.alloc _ _ _)
  · rintro k (rfl | rfl | ⟨i, e⟩ | ⟨i, d, hd, _⟩)
    · simp [ns0]
    · simp [ns0]
    · cases e
    · cases hd
end Go.Proofs.Ytjffhnpoipolfaa
