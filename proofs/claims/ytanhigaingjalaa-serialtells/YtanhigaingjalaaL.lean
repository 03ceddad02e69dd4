/-
  Arguments that came in: rows of numbers of 32 bits.
-/
import Derived.Test.YtanhigaingjalaaRows
import Derived.Test.YtanhigaingjalaaC
import Derived.OpenShut
import Derived.SizedLaws
import Derived.Carry
import Derived.Lib.SmallJoins
set_option linter.unusedSimpArgs false
set_option linter.unusedVariables false
namespace Go.Proofs.Ytanhigaingjalaa
open Go.ChangeShapes Go.WideShapes Go.ChangeAt Go.RowKit Go.Maps

theorem own : ownKnob Try.prog.godebug = none := by kernel_rfl
theorem laidOut : laidOutB Try.prog = true := by kernel_rfl
theorem cells22 : Try.prog.cellsOf 22 = 1 := by kernel_rfl
theorem bytes22 : Try.prog.bytesOf 22 = 4 := by kernel_rfl

section
variable {H : Type} {enc : TypeId × Value → H} {W : World}
theorem open_bs {fuel : Nat} {a1 : Option Addr} {len cap : Nat} {x : DataW H × List MemPlace} (hf : DataW.trod enc Try.prog W 0 (fun _ => true) true fuel 29 [.slice a1 len cap] = some x)
    (hsz : ∀ elems spare, x.1 = .slice elems spare → (elems.length + spare.length) * Try.prog.bytesOf 22 ≤ reachBytes) : ∃ l, Sl W (.slice a1 len cap) l := by
  rcases open_ints Try.underlying29 Try.underlying22 cells22 hf with ⟨hcs, hx⟩ | ⟨a, len', cap', zs, hcs, _, hl, hm, hz, hx, hcell, hwz⟩
  · simp at hcs
    obtain ⟨rfl, rfl, rfl⟩ := hcs
    exact ⟨[], by simp, by simp, .inl ⟨rfl, rfl⟩⟩
  · simp at hcs
    obtain ⟨rfl, rfl, rfl⟩ := hcs
    subst hx
    have hb := hsz _ _ rfl
    have hr := reachBytes_lt
    rw [bytes22] at hb
    simp only [lits, List.length_map, List.length_take, List.length_drop, if_true] at hb hz
    have hln : (zs.take len).length = len := by simp; omega
    refine ⟨zs.take len, ?_, by rw [hln]; omega, .inr ⟨a, cap, by rw [hln], by rw [hln]; exact hl, by unfold maxLen at hm; omega, fun i hi => ?_⟩⟩
    · intro y hy
      have := bounds_u32 (hwz y (List.mem_of_mem_take hy))
      exact ⟨this.1, by omega⟩
    · rw [hln] at hi
      rw [hcell i (by omega)]
      simp [List.getD_eq_getElem?_getD, List.getElem?_take_of_lt hi]
end
end Go.Proofs.Ytanhigaingjalaa
