/-
  Carried over from another seat of ours (QB).
-/
import Derived.Test.YticgnaikbmnagaaNB
import Derived.Test.YticgnaikbmnagaaBL
import Derived.Test.YticgnaikbmnagaaBB
import Derived.Test.YticgnaikbmnagaaBC
import Derived.Test.YticgnaikbmnagaaS
import Derived.Test.YticgnaikbmnagaaBH
import Derived.Test.YticgnaikbmnagaaAS
set_option linter.unusedVariables false
set_option linter.unusedSimpArgs false
namespace Go.Proofs.Yticgnaikbmnagaa
open Go.RowKit Go.Maps
attribute [local go_sem] Oper.semAt_some
abbrev vr (s : ByteArray) : Tm := .mk { k := 9, s := s } [] []
abbrev it (n : Int) : Tm := .mk { k := 1, n := n } [] []
theorem leaf_v {A : Nat → Prop} {W : World} {t : Lf} {v : Value} (h : Rep A W (.mk t [] []) v) : ∃ a1 c1 a2 c2, v = ts t.k t.n t.x t.y t.s t.a t.c t.d a1 0 c1 a2 0 c2 := by
  obtain ⟨t', bs, l, a1, c1, a2, c2, e, rfl⟩ := h.ts
  cases e
  exact ⟨a1, c1, a2, c2, rfl⟩
theorem leaf_rep (A : Nat → Prop) (W : World) (t : Lf) (a1 : Option Addr) (c1 : Nat) (a2 : Option Addr) (c2 : Nat) : Rep A W (.mk t [] []) (ts t.k t.n t.x t.y t.s t.a t.c t.d a1 0 c1 a2 0 c2) := ⟨_, _, [], rfl, .inl ⟨rfl, _, _, rfl⟩, .inl ⟨rfl, _, _, rfl⟩, rfl⟩
end Go.Proofs.Yticgnaikbmnagaa

