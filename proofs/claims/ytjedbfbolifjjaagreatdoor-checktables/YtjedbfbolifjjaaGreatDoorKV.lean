/-
  A copy of a set of names: maps.Clone.
-/
import Derived.Test.YtjedbfbolifjjaaGreatDoorKB
import Derived.Test.YtjedbfbolifjjaaGreatDoorA
import Derived.MapKept
set_option linter.unusedVariables false
set_option linter.unusedSimpArgs false
namespace Go.Proofs.YtjedbfbolifjjaaGreatDoor
open Go.RowKit Go.Maps Go.WideMaps
variable {W W' : World}
theorem cl_run (w : World) (t : TypeId) (r : Nat) (es : Array MapEntry) (clock : Nat) (hb : w.heap[r]? = some (.map es clock)) : (Extern.MapsClone.clone #[.iface t (.map (some r))]).run Tryz.prog w = .ok (.iface t (.map (some w.heap.size))) (w.alloc (.map es clock)) := by
  show Sem.run Tryz.prog (getObj r >>= _) w = _
  simp [Go.MapKept.run_getObj_map hb, Result.andThen]
theorem cf114 (w : World) (t : TypeId) (r : Nat) (es : Array MapEntry) (clock : Nat) (hb : w.heap[r]? = some (.map es clock)) : (callFunc 114 #[.iface t (.map (some r))]).run Tryz.prog w = .ok (Next.value (.iface t (.map (some w.heap.size)))) (w.alloc (.map es clock)) := by
  rw [run_callFunc_extern (e := Extern.MapsClone.clone) Tryz.func114 (by kernel_rfl) (by kernel_rfl) (by kernel_rfl) (by kernel_rfl), cl_run w t r es clock hb]
  rfl
theorem ta66 (w : World) (r : Nat) : (Instr.typeAssert (.iface 66 (.map (some r))) 20 66 false).run Tryz.prog w = .ok (.map (some r)) w := by kernel_rfl
theorem Bd.obj {mb : Nat} {L : List ByteArray} (h : Bd W mb L) : ∃ es clock, W.heap[mb]? = some (.map es clock) ∧ Bd (W.alloc (.map es clock)) W.heap.size L := by
  obtain ⟨D, ⟨es, clock, h1, h2⟩, h3⟩ := h
  exact ⟨es, clock, h1, D, ⟨es, clock, heap_alloc_new W _, h2⟩, h3⟩
set_option maxRecDepth 100000 in
set_option maxHeartbeats 1600000 in
theorem mclone_c (W : World) (mb : Nat) (L : List ByteArray) (hM : Bd W mb L) : Calls Tryz.prog 97 #[.map (some mb)] W fun e w' => e = .returned (.map (some W.heap.size)) ∧ Bd w' W.heap.size L ∧ Gr (fun _ => False) W w' := by
  obtain ⟨es, clock, h1, h2⟩ := hM.obj
  have hx := cf114 W 66 mb es clock h1
  have gA := Gr.alloc W (.map es clock) (fun _ => False)
  have hnn : (binOp .eql 66 (.map (some mb)) (.map none)).run Tryz.prog W = .ok (.bool false) W := by rfl
  have hta := fun w r => ta66 w r
  replace h2 := Lib.hid h2
  clear hM h1
  go_enter Tryz.func97, Tryz.ntmps97
  go_wp2_with fail
  go_ret
  exact ⟨rfl, h2.out, gA⟩
end Go.Proofs.YtjedbfbolifjjaaGreatDoor
