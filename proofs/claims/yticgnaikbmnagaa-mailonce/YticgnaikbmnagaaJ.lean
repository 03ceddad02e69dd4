/-
  Carried over from another seat of ours (J).
-/
import Derived.Test.YticgnaikbmnagaaI
import Derived.Maps.AppendAt
import Derived.RegionTactic
import Derived.BigRegion
set_option linter.unusedVariables false
set_option linter.unusedSimpArgs false
namespace Go.Proofs.Yticgnaikbmnagaa
open Go.RowKit Go.Maps

theorem ownsRow_of_block {W W' : World} {base : Nat} {e : TypeId} {size : Nat} {sv : Value} {n : Nat} {xs : List Value} (h : W.ownsRow base e size sv n xs) (hb : ∀ k, base ≤ k → sv.ownBlock = some k → W'.heap[k]? = W.heap[k]?) : W'.ownsRow base e size sv n xs := by
  refine ⟨h.1, ?_⟩
  rcases h.2 with h0 | ⟨g, cap, cur, rfl, hg, h2, h3⟩
  · exact .inl h0
  · exact .inr ⟨g, cap, cur, rfl, hg, (hb g hg rfl).trans h2, h3⟩
theorem ownsRow_lt {W : World} {base : Nat} {e : TypeId} {size : Nat} {sv : Value} {n : Nat} {xs : List Value} (h : W.ownsRow base e size sv n xs) (k : Nat) (hk : sv.ownBlock = some k) : base ≤ k ∧ k < W.heap.size := by
  rcases h.2 with ⟨rfl, _⟩ | ⟨g, cap, cur, rfl, hg, h2, h3⟩
  · cases hk
  · cases hk; exact ⟨hg, (Array.getElem?_eq_some_iff.1 h2).1⟩
theorem ownsRow_gr {S : Nat → Prop} {W W' : World} {base : Nat} {e : TypeId} {size : Nat} {sv : Value} {n : Nat} {xs : List Value} (h : W.ownsRow base e size sv n xs) (g : Gr S W W') (hs : ∀ k, base ≤ k → ¬ S k) : W'.ownsRow base e size sv n xs :=
  ownsRow_of_block h (fun k h1 h2 => g.block k (ownsRow_lt h k h2).2 (hs k h1))
theorem ownsRow_sv {W : World} {base : Nat} {e : TypeId} {size : Nat} {sv : Value} {n : Nat} {xs : List Value} (h : W.ownsRow base e size sv n xs) : ∃ a cap, sv = .slice a n cap := by
  rcases h.2 with ⟨rfl, rfl⟩ | ⟨g, cap, cur, rfl, hg, h2, h3⟩ <;> exact ⟨_, _, rfl⟩

end Go.Proofs.Yticgnaikbmnagaa
/-
  The table of kinds, and what is wrong with a term that has no elements.
-/
namespace Go.Proofs.Yticgnaikbmnagaa
open Go.RowKit Go.Maps
@[go_sem] theorem st_func (P : Program) (w : World) (a : Addr) (m : Mode) (fn : Fn) (x y : Array Value) : (store a (.func fn x y) m).run P w = stored P w a (.func fn x y) m := run_store P w a _ m rfl
@[go_sem] theorem st_nilFunc (P : Program) (w : World) (a : Addr) (m : Mode) : (store a .nilFunc m).run P w = stored P w a .nilFunc m := run_store P w a _ m rfl
abbrev fv (n : Nat) : Value := .func (.func n) #[] #[]
/-- The table of kinds in memory. -/
def Kd (W : World) (b : Nat) : Prop := W.heap[b]? = some (.cells #[.nilFunc, .nilFunc, .nilFunc, fv 31, fv 32, fv 33, fv 34, fv 32, fv 33, fv 35, fv 36, fv 37, fv 28, fv 29, fv 30, fv 28, fv 29, fv 30,
  fv 38, fv 39, .func (.func 40) #[pt b] #[], fv 38, fv 39, .func (.func 41) #[pt b] #[], fv 42, fv 39, fv 43] 69 (0, 0))
theorem Kd.gr {S : Nat → Prop} {W W' : World} {b : Nat} (h : Kd W b) (g : Gr S W W') (hs : ¬ S b) : Kd W' b := g.keep h hs
theorem Kd.lt {W : World} {b : Nat} (h : Kd W b) : b < W.heap.size := (Array.getElem?_eq_some_iff.1 h).1
/-- The row of a kind: what is left without its fields, whether its value may be. -/
theorem Kd.cells {W : World} {b : Nat} (h : Kd W b) :
    (W.cell? ⟨b, 3, none⟩ = some (fv 31) ∧ W.cell? ⟨b, 4, none⟩ = some (fv 32) ∧ W.cell? ⟨b, 5, none⟩ = some (fv 33)) ∧
    (W.cell? ⟨b, 6, none⟩ = some (fv 34) ∧ W.cell? ⟨b, 7, none⟩ = some (fv 32) ∧ W.cell? ⟨b, 8, none⟩ = some (fv 33)) ∧
    (W.cell? ⟨b, 9, none⟩ = some (fv 35) ∧ W.cell? ⟨b, 10, none⟩ = some (fv 36) ∧ W.cell? ⟨b, 11, none⟩ = some (fv 37)) ∧
    (W.cell? ⟨b, 12, none⟩ = some (fv 28) ∧ W.cell? ⟨b, 13, none⟩ = some (fv 29) ∧ W.cell? ⟨b, 14, none⟩ = some (fv 30)) ∧
    (W.cell? ⟨b, 15, none⟩ = some (fv 28) ∧ W.cell? ⟨b, 16, none⟩ = some (fv 29) ∧ W.cell? ⟨b, 17, none⟩ = some (fv 30)) := by
  unfold Kd at h
  simp [World.cell?, h]

set_option maxRecDepth 100000 in
set_option maxHeartbeats 1600000 in
theorem makeKinds_c (W : World) : Calls Try.prog 22 #[] W fun e w' => e = .returned (pt W.heap.size) ∧ Kd w' W.heap.size ∧ Gr (fun _ => False) W w' := by
  have hmf : ∀ (fn : Fn) (first cap : Array Value) (w : World), (Instr.makeFunc fn first cap).run Try.prog w = .ok (.func fn first cap) w := fun _ _ _ _ => rfl
  go_enter Try.func22, Try.ntmps22
  go_wp2_with fail
  go_region
  all_goals
    go_wp2_with fail
    go_ret
    refine ⟨rfl, ?_, ?_⟩
    · refine (Gr.drew _ (fun _ => False)).keep ((Gr.alloc _ _ (fun _ => False)).keep (heap_alloc_new W _) (fun e => e)) (fun e => e)
    · exact ((Gr.alloc _ _ _).trans (Gr.alloc _ _ _)).trans (Gr.drew _ _)
end Go.Proofs.Yticgnaikbmnagaa



