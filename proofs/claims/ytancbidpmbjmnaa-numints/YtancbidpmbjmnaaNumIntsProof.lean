/-
  NumInts returns true for every two int64: sums less one part, products in either order, quotients and rests of ints made by the program's num package come out as whole numbers' do; it changes nothing that was there. Conditions: none.
  The frame below is the guide's own (its skeleton by program); the walk's steps lie in the texts that are imported.
-/
import Derived.Test.YtancbidpmbjmnaaRows
import Derived.WalkKit
import Derived.ProofKit
import Derived.OpenShut
import Derived.Test.YtancbidpmbjmnaaJ
import Derived.Test.YtancbidpmbjmnaaK
import Derived.Test.YtancbidpmbjmnaaN
import Derived.Test.YtancbidpmbjmnaaO
import Derived.Test.YtancbidpmbjmnaaQ
namespace Go.Proofs.Ytancbidpmbjmnaa.numInts
open Go.ChangeShapes Go.WideShapes Go.ChangeAt Go.RowKit
set_option linter.unusedVariables false      -- a walk need not use every 'w<i>' (that an integer argument fits its kind)

theorem own : ownKnob Try.prog.godebug = none := by kernel_rfl

theorem walk (a b : Int) (w0 : (Lit.int .i64 a).wf = true) (w1 : (Lit.int .i64 b).wf = true) (w : World) :
    Calls Try.prog 3 #[.int .i64 a, .int .i64 b] w fun e w' => e = .returned (.bool true) ∧ Kp w w' := by
  by_cases ha : InR a
  · by_cases hb : InR b
    · by_cases h0 : b = 0
      · subst h0; exact num_z a w ha
      · by_cases hq : InR (a.tdiv b)
        · have hm := mod_in (a := a) hb h0
          have hr : InR (a.tmod b) := ⟨by omega, hm.2⟩
          have hs := mod_sign a b
          have hp := back_in (b := b) ha
          have ea := back_eq a b
          by_cases hc : InR (a + b)
          · by_cases z : a.tmod b = 0
            · exact num_y0 a b _ _ _ _ w ha hb h0 hq hr hp rfl rfl rfl ea hm.1 hc rfl (by simp [z])
            · by_cases g : a.tmod b < 0
              · exact num_ym a b _ _ _ _ w ha hb h0 hq hr hp rfl rfl rfl ea hm.1 hc rfl g (by omega)
              · exact num_yp a b _ _ _ _ w ha hb h0 hq hr hp rfl rfl rfl ea hm.1 hc rfl (by simpa using g) (by simp; omega) (by simpa using z)
          · by_cases z : a.tmod b = 0
            · exact num_n0 a b _ _ _ w ha hb h0 hq hr hp rfl rfl rfl ea hm.1 hc (by simp [z])
            · by_cases g : a.tmod b < 0
              · exact num_nm a b _ _ _ w ha hb h0 hq hr hp rfl rfl rfl ea hm.1 hc g (by omega)
              · exact num_np a b _ _ _ w ha hb h0 hq hr hp rfl rfl rfl ea hm.1 hc (by simpa using g) (by simp; omega) (by simpa using z)
        · obtain ⟨rfl, rfl⟩ := div_in ha hq
          exact num_dn w
    · exact num_out a b w (Or.inr hb)
  · exact num_out a b w (Or.inl ha)

/-! ### THE ROW's STEP: WRITTEN OUT: LEAVE IT -/
set_option maxRecDepth 100000 in
theorem lifted (os : Os) (started : os.Started) (H : Type) (enc : TypeId × Value → H) :
    ReturnsInHanded {} Try.checked os 3 .any (Rows.numIntsSpec.pre6 enc Try.prog Try.f3 Rows.numIntsRow.domain false) (Rows.numIntsSpec.post enc Try.prog Try.f3 false true false false) := by
  refine returnsInHanded_of_change (C := Try.checked) own started (by kernel_rfl) Try.func3
    (ChangeSpec.witness6 (enc := enc) (C := Try.checked) false ⟨#[], #[.int .i64 0, .int .i64 0], []⟩ 8 (by kernel_rfl) (by kernel_rfl) (by kernel_rfl) (by kernel_rfl)) ?_
  intro W base args ds gs before hval0 hW hcnd _
  have hval : ∀ (j : Nat) t v, Try.f3.params[j]? = some t → args[j]? = some v → Value.okWide Try.prog W .any base t v := hval0
  have hW' := hW
  obtain ⟨p, q, hA0, hV, rfl, hfz, hnd⟩ := hW
  have hA : DataW.TrodAll enc Try.prog W 0 (fun _ => true) true Try.f3.params.toList args.toList ds p := hA0
  rw [Try.params3] at hA hval
  obtain ⟨v0, vs0, d0, ds0, p0, q0, hargs, rfl, rfl, h0, r0⟩ := trodAll_cons hA
  obtain ⟨v1, vs1, d1, ds1, p1, q1, rfl, rfl, rfl, h1, r1⟩ := trodAll_cons r0
  obtain ⟨rfl, rfl, rfl⟩ := trodAll_nil r1
  obtain rfl : args = #[v0, v1] := by cases args; simp_all
  obtain ⟨rfl, rfl⟩ := trodVars_none hV
  obtain ⟨a0, rfl, rfl, rfl, w0⟩ := open_int Try.underlying2 (hval 0 2 v0 rfl rfl) h0
  obtain ⟨a1, rfl, rfl, rfl, w1⟩ := open_int Try.underlying2 (hval 1 2 v1 rfl rfl) h1
  clear hA0 hval0
  simp only [List.append_nil] at hW'
  refine (walk a0 a1 w0 w1 W).mono fun e W' ⟨he, hg⟩ => ?_
  subst he
  exact ⟨_, rfl, post_of_same (pa := []) (pv := []) hW' (fun _ _ _ => (trodAll_cons_mk (shut_bool Try.underlying4 _) trodAll_mk0)) (fun sp _ => (trodAll_cons_mk (shut_int Try.underlying2 w0) (trodAll_cons_mk (shut_int Try.underlying2 w1) trodAll_mk0))) (fun _ _ => rfl) rfl
    (hg.below.frame _) hg.frozen (ok_one (by kernel_rfl) rfl (okWide_bool_mk Try.underlying4 _))⟩

theorem over : Rows.numIntsRow.holds Try.pinned (OpenSpec.ofChange Rows.numIntsSpec) :=
  OpenClaim.holds_of_wide 3 Try.f3 rfl rfl rfl rfl rfl rfl rfl ⟨rfl, rfl, rfl, rfl, rfl⟩ rfl rfl rfl rfl rfl (by kernel_rfl) Try.func3 (by kernel_rfl)
    (of_decide_eq_true (by kernel_rfl)) (by unfold Func.isWrapper; first | (rw [if_pos (by decide +kernel)]; kernel_rfl) | (rw [if_neg (by decide +kernel)]; exact ⟨rfl, rfl⟩))
    (fun os started H enc _ => lifted os started H enc)

/-- ████ THE STATEMENT ████ -/
theorem proved : Rows.NumIntsSaid :=
  over
end Go.Proofs.Ytancbidpmbjmnaa.numInts
namespace Go.Proofs.Ytancbidpmbjmnaa
theorem numInts_holds : Rows.NumIntsSaid := numInts.proved
#print axioms numInts_holds
end Go.Proofs.Ytancbidpmbjmnaa
