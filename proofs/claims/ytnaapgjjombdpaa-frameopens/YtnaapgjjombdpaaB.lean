/-
  Which frames may be: the program's Check and the reference's.
-/
import Derived.Test.YtnaapgjjombdpaaA
namespace Go.Proofs.Ytnaapgjjombdpaa
open Go.RowKit

/-- From W to W' only blocks of S and new ones have turned. -/
structure Gr (S : Nat → Prop) (W W' : World) : Prop where
  os : W'.os = W.os
  tape : W'.tape = W.tape
  output : W'.output = W.output
  size : W.heap.size ≤ W'.heap.size
  block : ∀ k, k < W.heap.size → ¬ S k → W'.heap[k]? = W.heap[k]?
variable {S S' : Nat → Prop} {W W1 W' : World}
theorem Gr.refl (S : Nat → Prop) (W : World) : Gr S W W := ⟨rfl, rfl, rfl, Nat.le_refl _, fun _ _ _ => rfl⟩
theorem Gr.trans' (h : Gr S W W1) (k : Gr S' W1 W') (hs : ∀ i, i < W.heap.size → S' i → S i) : Gr S W W' :=
  ⟨k.os.trans h.os, k.tape.trans h.tape, k.output.trans h.output, Nat.le_trans h.size k.size,
   fun i hi hn => (k.block i (Nat.lt_of_lt_of_le hi h.size) (fun e => hn (hs i hi e))).trans (h.block i hi hn)⟩
theorem Gr.trans (h : Gr S W W1) (k : Gr S W1 W') : Gr S W W' := h.trans' k (fun _ _ e => e)
theorem Gr.mono (h : Gr S W W') (hs : ∀ i, i < W.heap.size → S i → S' i) : Gr S' W W' :=
  ⟨h.os, h.tape, h.output, h.size, fun i hi hn => h.block i hi (fun e => hn (hs i hi e))⟩
theorem Gr.of_below (h : Below W.heap.size W W') (S : Nat → Prop) : Gr S W W' := ⟨h.os, h.tape, h.output, h.size, fun k hk _ => h.block k hk⟩
theorem Gr.of_grown {row : Option Nat} (h : W.grownBy W' row) (hr : ∀ k, row = some k → S k) : Gr S W W' :=
  ⟨h.os, h.tape, h.output, h.size, fun k hk hn => h.block k hk (fun e => hn (hr k e.symm))⟩
theorem Gr.alloc (W : World) (o : Obj) (S : Nat → Prop) : Gr S W (W.alloc o) := .of_below ((Below.refl _ W).alloc (Nat.le_refl _) o) S
theorem Gr.set (W : World) (p : Addr) (v : Value) (h : S p.block) : Gr S W (W.setCell p v) :=
  ⟨rfl, rfl, rfl, by simp, fun k _ hn => heap_setCell_other W p k v (fun e => hn (e ▸ h))⟩
theorem Gr.drew (W : World) (S : Nat → Prop) : Gr S W W.drew := .of_below ((Below.refl _ W).drew) S
theorem Gr.drewN (W : World) (m : Nat) (S : Nat → Prop) : Gr S W (W.drewN m) := ⟨rfl, rfl, rfl, Nat.le_refl _, fun _ _ _ => rfl⟩
theorem Gr.below (h : Gr S W W') {N : Nat} (hN : N ≤ W.heap.size) (hs : ∀ i, S i → N ≤ i) : Below N W W' :=
  ⟨h.os, h.tape, h.output, h.size, fun k hk => h.block k (by omega) (fun e => by have := hs k e; omega)⟩
/-- Nothing that was there has turned. -/
abbrev G0 := Gr (fun _ => False)

theorem Sl.blk {v : Value} {l : List Nat} (h : Sl W v l) (hb : ∀ b off len cap, v = .slice (some ⟨b, off, none⟩) len cap → b < W.heap.size → W'.heap[b]? = W.heap[b]?) : Sl W' v l := by
  refine ⟨h.byte, h.len, ?_⟩
  rcases h.at' with h0 | ⟨a, cap, rfl, h1, h2, h3⟩
  · exact .inl h0
  · refine .inr ⟨a, cap, rfl, h1, h2, fun i hi => ?_⟩
    have := h3 i hi
    obtain ⟨b, off, spot⟩ := a
    have hs : spot = none := by simpa [Addr.add] using World.cell?_spot (h3 0 (by omega))
    subst hs
    rw [Addr.add_lit] at this ⊢
    have hlt : b < W.heap.size := by
      rcases Nat.lt_or_ge b W.heap.size with hlt | hge
      · exact hlt
      · simp [World.cell?, Array.getElem?_eq_none hge] at this
    simp only [World.cell?, hb b off _ _ rfl hlt] at this ⊢
    exact this
theorem Sl.gr {v : Value} {l : List Nat} (h : Sl W v l) (g : Gr S W W') (hs : ∀ b off len cap, v = .slice (some ⟨b, off, none⟩) len cap → ¬ S b) : Sl W' v l :=
  h.blk (fun b off len cap e hlt => g.block b hlt (hs b off len cap e))
theorem Sl.g0 {v : Value} {l : List Nat} (h : Sl W v l) (g : G0 W W') : Sl W' v l := h.gr g (fun _ _ _ _ _ e => e)

/-- A frame as a value. -/
abbrev fr (f t bo : Int) (v : Value) : Value := .agg #[.int .i64 f, .int .i64 t, .int .u32 bo, v]
def nod (n : Int) : Bool := decide (1 ≤ n) && decide (n ≤ 64)
/-- What is wrong with a frame. -/
def chk (f t bo : Int) (n : Nat) : Int :=
  if nod f = false ∨ nod t = false ∨ f = t then 60 else if bo = 0 then 61 else if 1200 < n then 62 else 0

theorem isNode_c (n : Int) (w : World) : Calls Try.prog 21 #[.int .i64 n] w fun e w' => e = .returned (.bool (nod n)) ∧ w = w' := by
  by_cases h1 : 1 ≤ n <;> by_cases h2 : n ≤ 64 <;> simp only [nod, h1, h2, decide_true, decide_false, Bool.and_true, Bool.and_false]
  all_goals (go_enter Try.func21, Try.ntmps21; go_wp2; go_ret; exact ⟨rfl, rfl⟩)

set_option maxHeartbeats 1600000 in
theorem check_c (W : World) (f t bo : Int) (a : Option Addr) (n cap : Nat) (hn : n ≤ 140737488355328) :
    Calls Try.prog 14 #[fr f t bo (.slice a n cap)] W fun e w' => e = .returned (.int .i64 (chk f t bo n)) ∧ G0 W w' := by
  unfold chk
  rcases hf : nod f with _ | _
  · simp only [true_or, if_true]
    go_enter Try.func14, Try.ntmps14
    go_wp2_with (first | (go_at_call 21; refine (isNode_c _ _).mono ?_; rintro e w' ⟨rfl, rfl⟩))
    go_ret
    exact ⟨rfl, Gr.alloc _ _ _⟩
  rcases ht : nod t with _ | _
  · simp only [true_or, or_true, if_true]
    go_enter Try.func14, Try.ntmps14
    go_wp2_with (first | (go_at_call 21; refine (isNode_c _ _).mono ?_; rintro e w' ⟨rfl, rfl⟩))
    go_ret
    exact ⟨rfl, Gr.alloc _ _ _⟩
  by_cases hft : f = t
  · simp only [hft, or_true, if_true]
    subst hft
    clear ht
    go_enter Try.func14, Try.ntmps14
    go_wp2_with (first | (go_at_call 21; refine (isNode_c _ _).mono ?_; rintro e w' ⟨rfl, rfl⟩))
    go_ret
    exact ⟨rfl, Gr.alloc _ _ _⟩
  have h1 : (f == t) = false := by simpa using hft
  simp only [hft, Bool.true_eq_false, or_self, if_false]
  clear hft
  by_cases hb : bo = 0
  · subst hb
    simp only [if_true]
    go_enter Try.func14, Try.ntmps14
    go_wp2_with (first | (go_at_call 21; refine (isNode_c _ _).mono ?_; rintro e w' ⟨rfl, rfl⟩))
    go_ret
    exact ⟨rfl, Gr.alloc _ _ _⟩
  have h2 : (bo == 0) = false := by simpa using hb
  simp only [hb, if_false]
  clear hb
  by_cases hl : 1200 < n
  · simp only [hl, if_true]
    have h3 : (1200 : Int) < (n : Int) := by omega
    go_enter Try.func14, Try.ntmps14
    go_wp2_with (first | (go_at_call 21; refine (isNode_c _ _).mono ?_; rintro e w' ⟨rfl, rfl⟩))
    go_ret
    exact ⟨rfl, Gr.alloc _ _ _⟩
  · simp only [hl, if_false]
    have h3 : ¬ (1200 : Int) < (n : Int) := by omega
    go_enter Try.func14, Try.ntmps14
    go_wp2_with (first | (go_at_call 21; refine (isNode_c _ _).mono ?_; rintro e w' ⟨rfl, rfl⟩))
    go_ret
    exact ⟨rfl, Gr.alloc _ _ _⟩

set_option maxHeartbeats 1600000 in
theorem check_r (W : World) (f t bo : Int) (a : Option Addr) (n cap : Nat) (hn : n ≤ 140737488355328) :
    Calls Try.prog 12 #[fr f t bo (.slice a n cap)] W fun e w' => e = .returned (.int .i64 (chk f t bo n)) ∧ G0 W w' := by
  by_cases f1 : f < 1
  · rw [show chk f t bo n = 60 by unfold chk; rw [if_pos]; left; simp [nod]; omega]
    go_enter Try.func12, Try.ntmps12
    go_wp2
    go_ret
    exact ⟨rfl, Gr.alloc _ _ _⟩
  by_cases f2 : 64 < f
  · rw [show chk f t bo n = 60 by unfold chk; rw [if_pos]; left; simp [nod]; omega]
    go_enter Try.func12, Try.ntmps12
    go_wp2
    go_ret
    exact ⟨rfl, Gr.alloc _ _ _⟩
  by_cases t1 : t < 1
  · rw [show chk f t bo n = 60 by unfold chk; rw [if_pos]; right; left; simp [nod]; omega]
    go_enter Try.func12, Try.ntmps12
    go_wp2
    go_ret
    exact ⟨rfl, Gr.alloc _ _ _⟩
  by_cases t2 : 64 < t
  · rw [show chk f t bo n = 60 by unfold chk; rw [if_pos]; right; left; simp [nod]; omega]
    go_enter Try.func12, Try.ntmps12
    go_wp2
    go_ret
    exact ⟨rfl, Gr.alloc _ _ _⟩
  have nf : nod f = true := by simp [nod]; omega
  have nt : nod t = true := by simp [nod]; omega
  unfold chk
  by_cases hft : f = t
  · simp only [hft, or_true, if_true]
    subst hft
    go_enter Try.func12, Try.ntmps12
    go_wp2
    go_ret
    exact ⟨rfl, Gr.alloc _ _ _⟩
  have h1 : (f == t) = false := by simpa using hft
  simp only [hft, nf, nt, Bool.true_eq_false, or_self, if_false]
  clear hft
  by_cases hb : bo = 0
  · subst hb
    simp only [if_true]
    go_enter Try.func12, Try.ntmps12
    go_wp2
    go_ret
    exact ⟨rfl, Gr.alloc _ _ _⟩
  have h2 : (bo == 0) = false := by simpa using hb
  simp only [hb, if_false]
  clear hb
  by_cases hl : 1200 < n
  · simp only [hl, if_true]
    have h3 : (1200 : Int) < (n : Int) := by omega
    go_enter Try.func12, Try.ntmps12
    go_wp2
    go_ret
    exact ⟨rfl, Gr.alloc _ _ _⟩
  · simp only [hl, if_false]
    have h3 : ¬ (1200 : Int) < (n : Int) := by omega
    go_enter Try.func12, Try.ntmps12
    go_wp2
    go_ret
    exact ⟨rfl, Gr.alloc _ _ _⟩
end Go.Proofs.Ytnaapgjjombdpaa
