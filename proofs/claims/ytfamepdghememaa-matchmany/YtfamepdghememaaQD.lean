/-
  Carried over from another seat of ours (QD).
-/
import Derived.Test.YtfamepdghememaaQC
import Derived.Maps.OwnSet
import Derived.Maps.Range
import Derived.Maps.Views
import Derived.StringKeys
import Derived.Shelf.Abstract
set_option linter.unusedVariables false
set_option linter.unusedSimpArgs false
namespace Go.Proofs.Ytfamepdghememaa
open Go.RowKit Go.Maps Go.WideMaps
variable {S S' : Nat → Prop} {W W1 W' : World}
def RR (v : Value) : Option (DataW Value × List MemPlace) := some (.held v, [])
abbrev kOf (s : ByteArray) : Go.Lit := .string s.data.toList
theorem kOf_ne {a b : ByteArray} (h : a ≠ b) : kOf a ≠ kOf b := fun e => h (by
  have h2 : a.data.toList = b.data.toList := by injection e
  exact ByteArray.ext (Array.toList_inj.1 h2))
theorem law9 : Keyed Try.prog 9 := string_keyed Try.underlying9
theorem zero31 (w : World) : (zeroValue 31).run Try.prog w = .ok (lf 0 0 0 0 e0 0 0 0) w := by kernel_rfl
theorem zero3 (w : World) : (zeroValue 3).run Try.prog w = .ok (.int .i64 0) w := by kernel_rfl
/-- A map from texts: what it holds, and how many entries it has. -/
def Mo (W : World) (mb : Nat) (z : Value) (n : Nat) (R : ByteArray → Option Value) : Prop :=
  ∃ D, W.ownsMap Try.prog 9 RR mb n D ∧ Maps.size D = n ∧ ∀ s, Maps.has D (kOf s) = (R s).isSome ∧ D.atKey (kOf s) (.held z) = .held ((R s).getD z)
theorem Mo.lt {mb n : Nat} {z : Value} {R : ByteArray → Option Value} (h : Mo W mb z n R) : mb < W.heap.size := by
  obtain ⟨D, h1, _⟩ := h; exact h1.lt
theorem Mo.gr {mb n : Nat} {z : Value} {R : ByteArray → Option Value} (h : Mo W mb z n R) (g : Gr S W W') (hs : ¬ S mb) : Mo W' mb z n R := by
  have hl := h.lt
  obtain ⟨D, ⟨es, clock, h1, h2⟩, h3⟩ := h
  exact ⟨D, ⟨es, clock, (g.block mb hl hs).trans h1, h2⟩, h3⟩
theorem Mo.new (W : World) (z : Value) : Mo (W.alloc (.map #[] 0)) W.heap.size z 0 (fun _ => none) :=
  ⟨.map [], World.ownsMap_made W Try.prog 9 RR, rfl, fun s => ⟨rfl, rfl⟩⟩
theorem Mo.look {mb n : Nat} {z : Value} {R : ByteArray → Option Value} (h : Mo W mb z n R) {t e : TypeId} (ht : Try.prog.underlying t = some (.map 9 e)) (hz : (zeroValue e).run Try.prog W = .ok z W) (s : ByteArray) (hs : s.size ≤ 1000) :
    (Instr.lookup t (.map (some mb)) (.string s) true).run Try.prog W = .ok (.tuple #[(R s).getD z, .bool (R s).isSome]) W := by
  obtain ⟨D, h1, h2, h3⟩ := h
  obtain ⟨v, ps, hr, hv⟩ := h1.look_ok law9 ht hz (zd := .held z) (zp := []) rfl (keyOf_string_mk Try.underlying9 (s := s) (by unfold maxLen; omega))
  obtain ⟨h4, h5⟩ := h3 s
  rw [h5] at hv
  simp only [RR, Option.some.injEq, Prod.mk.injEq, DataW.held.injEq] at hv
  rw [hr, hv.1, h4]
theorem Mo.get {mb n : Nat} {z : Value} {R : ByteArray → Option Value} (h : Mo W mb z n R) {t e : TypeId} (ht : Try.prog.underlying t = some (.map 9 e)) (hz : (zeroValue e).run Try.prog W = .ok z W) (s : ByteArray) (hs : s.size ≤ 1000) :
    (Instr.lookup t (.map (some mb)) (.string s) false).run Try.prog W = .ok ((R s).getD z) W := by
  obtain ⟨D, h1, h2, h3⟩ := h
  obtain ⟨v, ps, hr, hv⟩ := h1.lookup law9 ht hz (zd := .held z) (zp := []) rfl (keyOf_string_mk Try.underlying9 (s := s) (by unfold maxLen; omega))
  obtain ⟨h4, h5⟩ := h3 s
  rw [h5] at hv
  simp only [RR, Option.some.injEq, Prod.mk.injEq, DataW.held.injEq] at hv
  rw [hr, hv.1]
/-- One entry more, or another. -/
def ins (R : ByteArray → Option Value) (s : ByteArray) (v : Value) : ByteArray → Option Value := fun x => if x = s then some v else R x
theorem ins_same (R : ByteArray → Option Value) (s : ByteArray) (v : Value) : ins R s v s = some v := if_pos rfl
theorem ins_other (R : ByteArray → Option Value) {s x : ByteArray} (v : Value) (h : x ≠ s) : ins R s v x = R x := if_neg h
theorem Mo.put {mb n : Nat} {z : Value} {R : ByteArray → Option Value} (h : Mo W mb z n R) {t e : TypeId} (ht : Try.prog.underlying t = some (.map 9 e)) (s : ByteArray) (hs : s.size ≤ 1000) (hn : n ≤ 1000000) (v : Value) :
    ∃ w', (Instr.mapUpdate t (.map (some mb)) (.string s) v).run Try.prog W = .ok () w' ∧ Mo w' mb z (if (R s).isSome = true then n else n + 1) (ins R s v) ∧ Gr (fun i => i = mb) W w' ∧ w'.heap.size = W.heap.size := by
  obtain ⟨D, h1, h2, h3⟩ := h
  obtain ⟨w', hr, h4, h5⟩ := h1.store law9 ht (by unfold maxLen; omega) (keyOf_string_mk Try.underlying9 (s := s) (by unfold maxLen; omega)) (val := v) (d := .held v) (ps := []) rfl
  have hsz : Maps.size (D.put (kOf s) (.held v)) = if (R s).isSome = true then n else n + 1 := by
    rw [size_put (h1.tidy law9), (h3 s).1, h2]
  refine ⟨w', hr, ⟨_, ?_, hsz, fun x => ?_⟩, Gr.of_grown h5.grown (fun i e => by cases e; rfl), ?_⟩
  · obtain ⟨es, clock, k1, k2, k3, k4⟩ := h4
    refine ⟨es, clock, k1, k2, ?_, k4⟩
    have e1 : Maps.size (D.put (kOf s) (.held v)) = es.size := by rw [k4]; simp [Maps.size, length_sorted]
    rw [← hsz, e1]; exact Nat.le_refl _
  · by_cases e : x = s
    · subst e
      rw [has_put_same h1.isMap (show WideAt.IsKeyLit (kOf x) from trivial), atKey_put_same h1.isMap (show WideAt.IsKeyLit (kOf x) from trivial), ins_same]
      exact ⟨rfl, rfl⟩
    · rw [has_put_other (kOf_ne e), atKey_put_other (kOf_ne e), ins_other _ _ e]
      exact h3 x
  · obtain ⟨_, _, _, _, _, rfl⟩ := h5
    exact Array.size_setIfInBounds
theorem Mo.len {mb n : Nat} {z : Value} {R : ByteArray → Option Value} (h : Mo W mb z n R) {t e : TypeId} (ht : Try.prog.underlying t = some (.map 9 e)) (ty : TypeId) : (Builtin.len_ #[t] ty #[.map (some mb)]).run Try.prog W = .ok (.int .i64 (n : Int)) W := by
  obtain ⟨D, h1, h2, h3⟩ := h
  rw [h1.len ht ty, h2]
end Go.Proofs.Ytfamepdghememaa

