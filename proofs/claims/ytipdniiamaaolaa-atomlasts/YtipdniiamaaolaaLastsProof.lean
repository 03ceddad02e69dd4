/-
  AtomLasts returns true for every list of texts: put in one after the other, a name never gets another number, a number is its name's, and no two names have one; it changes nothing that was there. Conditions: none.
-/
import Derived.Test.YtipdniiamaaolaaRows
import Derived.Test.YtipdniiamaaolaaN
import Derived.OpenShut
import Derived.SizedLaws
namespace Go.Proofs.Ytipdniiamaaolaa.atomLasts
open Go.ChangeShapes Go.WideShapes Go.ChangeAt Go.RowKit

theorem own : ownKnob Try.prog.godebug = none := by kernel_rfl
theorem laidOut : laidOutB Try.prog = true := by kernel_rfl
theorem cells9 : Try.prog.cellsOf 9 = 1 := by kernel_rfl

set_option maxRecDepth 100000 in
set_option maxHeartbeats 1600000 in
/-- No text. -/
theorem walk0 (a : Option Addr) (cap : Nat) (W : World) : Calls Try.prog 5 #[.slice a 0 cap] W fun e W' => e = .returned (.bool true) ∧ Gr (fun _ => False) W W' := by
  go_enter Try.func5, Try.ntmps5
  go_wp2_with (first
    | (go_at_call 9; refine (alive_c _).mono ?_; rintro e w1 ⟨rfl, hg⟩)
    | (go_at_call 12; refine (new_o hg).mono ?_; rintro e w2 ⟨rfl, ho⟩))
  have hgW : Gr (fun _ => False) W w2 := by obtain ⟨_, _, _, _, h⟩ := ho; exact h
  go_loopw [4, 5] (fun v i wr => v = .slice none 0 0 ∧ i = .int .i64 0 ∧ Gr (fun _ => False) W wr) (fun _ _ _ => 0)
  case atStart => exact ⟨rfl, rfl, hgW⟩
  case round =>
    obtain ⟨rfl, rfl, hgr⟩ := hrel
    go_wp2
    go_loopw [8] (fun i wr => i = .int .i64 0 ∧ Gr (fun _ => False) W wr) (fun _ _ => 0)
    case atStart => exact ⟨rfl, hgr⟩
    case round =>
      obtain ⟨rfl, hgr2⟩ := hrel
      go_wp2
      go_ret
      exact ⟨rfl, hgr2⟩

set_option maxRecDepth 100000 in
theorem lifted (os : Os) (started : os.Started) (H : Type) (enc : TypeId × Value → H) :
    ReturnsInHanded {} Try.checked os 5 .any (Rows.atomLastsSpec.pre6 enc Try.prog Try.f5 Rows.atomLastsRow.domain false) (Rows.atomLastsSpec.post enc Try.prog Try.f5 false true false false) := by
  refine returnsInHanded_of_change (C := Try.checked) own started (by kernel_rfl) Try.func5
    (ChangeSpec.witness6 (enc := enc) (C := Try.checked) false ⟨#[], #[.slice none 0 0], []⟩ 8 (by kernel_rfl) (by kernel_rfl) (by kernel_rfl) (by kernel_rfl)) ?_
  intro W base args ds gs before hval0 hW _ _
  have hval : ∀ (j : Nat) t v, Try.f5.params[j]? = some t → args[j]? = some v → Value.okWide Try.prog W .any base t v := hval0
  have hW' := hW
  obtain ⟨p, q, hA0, hV, rfl, hfz, hnd⟩ := hW
  have hA : DataW.TrodAll enc Try.prog W 0 (fun _ => true) true Try.f5.params.toList args.toList ds p := hA0
  rw [Try.params5] at hA hval
  obtain ⟨v0, d0, hargs, rfl, h0⟩ := trodAll_one hA
  obtain rfl : args = #[v0] := by cases args; simp_all
  obtain ⟨rfl, rfl⟩ := trodVars_none hV
  obtain ⟨a0, len, cap, rfl⟩ := okWide_slice Try.underlying27 (hval 0 27 v0 rfl rfl)
  have h0k := h0
  obtain ⟨fuel, hf⟩ := h0
  clear hA0 hval0
  simp only [List.append_nil] at hW'
  have hlt : ∀ x ∈ p, x.block < W.heap.size := fun x hx => by simpa using hW'.lt x hx
  have fin : ∀ e W', (e = Ending.returned (.bool true) ∧ Gr (fun _ => False) W W') →
      ∃ v, e = Ending.returned v ∧ Rows.atomLastsSpec.post enc Try.checked.prog Try.f5 false true false false W #[.slice a0 len cap] v W' := by
    rintro e W' ⟨rfl, hg⟩
    have hn : Below W.heap.size W W' := hg.below (Nat.le_refl _) (fun _ e => e.elim)
    exact ⟨_, rfl, _, _, _, [], p, [], hW', trodAll_mk1 (shut_bool Try.underlying4 _), trodAll_mk1 (Below.trod laidOut (by kernel_rfl) (of_decide_eq_true (by kernel_rfl)) h0k hn hlt), rfl, hn.frame _, fun h => by cases h⟩
  rcases open_strings Try.underlying27 Try.underlying9 cells9 hf with ⟨hcs, hx⟩ | ⟨a, len', cap', ss, hcs, _, hl, hm, hz, hx, hcell, hws⟩
  · simp [Value.cells] at hcs
    obtain ⟨rfl, rfl, rfl⟩ := hcs
    exact (walk0 none 0 W).mono fin
  · simp [Value.cells] at hcs
    obtain ⟨rfl, rfl, rfl⟩ := hcs
    simp only [Prod.mk.injEq] at hx
    obtain ⟨_, rfl⟩ := hx
    simp only [if_true] at hz
    by_cases hl0 : len = 0
    · subst hl0
      exact (walk0 (some a) cap W).mono fin
    · obtain ⟨b, off, spot⟩ := a
      have hspot : spot = none := by simpa [Addr.add] using World.cell?_spot (hcell 0 (by omega))
      subst hspot
      have hbW : b < W.heap.size := hlt (.cell b off) (MemPlace.mem_row.2 ⟨0, by omega, by simp⟩)
      refine (lasts_c W b off len cap (fun j => ss.getD j ByteArray.empty) (by omega) (by unfold maxLen at hm; omega) hbW (fun j hj => by rw [← add_plain]; exact hcell j (by omega)) (fun j hj => ?_)).mono fin
      have hj2 : j < ss.length := by omega
      have : ss.getD j ByteArray.empty = ss[j] := by simp [hj2]
      show (ss.getD j ByteArray.empty).size ≤ maxLen
      rw [this]
      exact hws _ (List.getElem_mem hj2)

theorem over : Rows.atomLastsRow.holds Try.pinned (OpenSpec.ofChange Rows.atomLastsSpec) :=
  OpenClaim.holds_of_wide 5 Try.f5 rfl rfl rfl rfl rfl rfl rfl ⟨rfl, rfl, rfl, rfl, rfl⟩ rfl rfl rfl rfl rfl (by kernel_rfl) Try.func5 (by kernel_rfl)
    (of_decide_eq_true (by kernel_rfl)) (by unfold Func.isWrapper; first | (rw [if_pos (by decide +kernel)]; kernel_rfl) | (rw [if_neg (by decide +kernel)]; exact ⟨rfl, rfl⟩))
    (fun os started H enc _ => lifted os started H enc)

/-- The statement. -/
theorem proved : Rows.AtomLastsSaid := over
end Go.Proofs.Ytipdniiamaaolaa.atomLasts
namespace Go.Proofs.Ytipdniiamaaolaa
theorem atomLasts_holds : Rows.AtomLastsSaid := atomLasts.proved
#print axioms atomLasts_holds
end Go.Proofs.Ytipdniiamaaolaa
