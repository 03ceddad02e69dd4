/-
  AtomPlays returns true for every list of calls: played one after the other, a table answers each as the document's own list of names does, copies included; it changes nothing that was there. Conditions: none.
-/
import Derived.Test.YtipdniiamaaolaaRows
import Derived.Test.YtipdniiamaaolaaR
import Derived.OpenShut
import Derived.Deep.Slices
import Derived.Deep.Strs
import Derived.SizedLaws
namespace Go.Proofs.Ytipdniiamaaolaa.atomPlays
open Go.ChangeShapes Go.WideShapes Go.ChangeAt Go.RowKit Go.Deep

theorem own : ownKnob Try.prog.godebug = none := by kernel_rfl
theorem laidOut : laidOutB Try.prog = true := by kernel_rfl
theorem cells9 : Try.prog.cellsOf 9 = 1 := by kernel_rfl
theorem cells3 : Try.prog.cellsOf 3 = 1 := by kernel_rfl
theorem cells29 : Try.prog.cellsOf 29 = 3 := by kernel_rfl

set_option maxRecDepth 100000 in
set_option maxHeartbeats 1600000 in
/-- No text. -/
theorem walk0 (a : Option Addr) (cap : Nat) (W : World) : Calls Try.prog 4 #[.slice a 0 cap] W fun e W' => e = .returned (.bool true) ∧ Gr (fun _ => False) W W' := by
  go_enter Try.func4, Try.ntmps4
  go_wp2_with (first
    | (go_at_call 9; refine (alive_c _).mono ?_; rintro e w1 ⟨rfl, hg⟩)
    | (go_at_call 12; refine (new_o hg).mono ?_; rintro e w2 ⟨rfl, ho⟩))
  have hd0 := duo_new ho
  go_loopw [3, 4, 5] (fun tv lv i wr => tv = pt w1.heap.size ∧ lv = .slice none 0 0 ∧ i = .int .i64 0 ∧ Duo W wr w1.heap.size [] (.slice none 0 0) []) (fun _ _ _ _ => 0)
  case atStart => exact ⟨rfl, rfl, rfl, hd0⟩
  case round =>
    obtain ⟨rfl, rfl, rfl, hd⟩ := hrel
    go_wp2_with (first
      | (go_at_call 18; refine (duo_all _ hd).mono ?_; rintro e w3 ⟨rfl, hd3⟩))
    go_ret
    exact ⟨rfl, hd3.keep⟩

set_option maxHeartbeats 2000000 in
set_option maxRecDepth 100000 in
theorem lifted (os : Os) (started : os.Started) (H : Type) (enc : TypeId × Value → H) :
    ReturnsInHanded {} Try.checked os 4 .any (Rows.atomPlaysSpec.pre6 enc Try.prog Try.f4 Rows.atomPlaysRow.domain false) (Rows.atomPlaysSpec.post enc Try.prog Try.f4 false true false false) := by
  refine returnsInHanded_of_change (C := Try.checked) own started (by kernel_rfl) Try.func4
    (ChangeSpec.witness6 (enc := enc) (C := Try.checked) false ⟨#[], #[.slice none 0 0], []⟩ 8 (by kernel_rfl) (by kernel_rfl) (by kernel_rfl) (by kernel_rfl)) ?_
  intro W base args ds gs before hval0 hW _ _
  have hval : ∀ (j : Nat) t v, Try.f4.params[j]? = some t → args[j]? = some v → Value.okWide Try.prog W .any base t v := hval0
  have hW' := hW
  obtain ⟨p, q, hA0, hV, rfl, hfz, hnd⟩ := hW
  have hA : DataW.TrodAll enc Try.prog W 0 (fun _ => true) true Try.f4.params.toList args.toList ds p := hA0
  rw [Try.params4] at hA hval
  obtain ⟨v0, d0, hargs, rfl, h0⟩ := trodAll_one hA
  obtain rfl : args = #[v0] := by cases args; simp_all
  obtain ⟨rfl, rfl⟩ := trodVars_none hV
  obtain ⟨a0, len, cap, rfl⟩ := okWide_slice Try.underlying24 (hval 0 24 v0 rfl rfl)
  have h0k := h0
  obtain ⟨fuel, hf⟩ := h0
  clear hA0 hval0
  simp only [List.append_nil] at hW'
  have hlt : ∀ x ∈ p, x.block < W.heap.size := fun x hx => by simpa using hW'.lt x hx
  have fin : ∀ e W', (e = Ending.returned (.bool true) ∧ Gr (fun _ => False) W W') →
      ∃ v, e = Ending.returned v ∧ Rows.atomPlaysSpec.post enc Try.checked.prog Try.f4 false true false false W #[.slice a0 len cap] v W' := by
    rintro e W' ⟨rfl, hg⟩
    have hn : Below W.heap.size W W' := hg.below (Nat.le_refl _) (fun _ e => e.elim)
    exact ⟨_, rfl, _, _, _, [], p, [], hW', trodAll_mk1 (shut_bool Try.underlying4 _), trodAll_mk1 (Below.trod laidOut (by kernel_rfl) (of_decide_eq_true (by kernel_rfl)) h0k hn hlt), rfl, hn.frame _, fun h => by cases h⟩
  rcases open_slice Try.underlying24 hf with ⟨hcs, hx⟩ | ⟨a, len', cap', m, n, D, Pl, hcs, _, hl, hm, hz, hx, hel⟩
  · simp [Value.cells] at hcs
    obtain ⟨rfl, rfl, rfl⟩ := hcs
    exact (walk0 none 0 W).mono fin
  · simp [Value.cells] at hcs
    obtain ⟨rfl, rfl, rfl⟩ := hcs
    simp only [Prod.mk.injEq] at hx
    obtain ⟨_, rfl⟩ := hx
    simp only [if_true] at hz
    have hlm : len ≤ m := by omega
    by_cases hl0 : len = 0
    · subst hl0
      exact (walk0 (some a) cap W).mono fin
    · have each : ∀ i, i < m → ∃ q : Int × Int × ByteArray, W.cell? (a.add (i * 3)) = some (.int .i64 q.1) ∧ W.cell? (a.add (i * 3 + 1)) = some (.int .i64 q.2.1) ∧ W.cell? (a.add (i * 3 + 2)) = some (.string q.2.2) ∧ q.2.2.size ≤ maxLen := by
        intro i hi
        obtain ⟨cs', h1, h2⟩ := hel i hi
        rw [cells29] at h1
        obtain ⟨_, hlen, hcell⟩ := World.cells?_some h1
        obtain ⟨y0, y1, y2, n', _, _, g0, g1, g2⟩ := trod_struct3 Try.underlying29 h2
        match cs', hlen with
        | [v0, v1, v2], _ =>
          simp [cells3, cells9] at g0 g1 g2
          obtain ⟨i0, e0, _, _⟩ := DataW.trod_int Try.underlying3 g0
          obtain ⟨i1, e1, _, _⟩ := DataW.trod_int Try.underlying3 g1
          obtain ⟨s2, e2, _, hs2⟩ := DataW.trod_string Try.underlying9 g2
          have k0 := hcell 0 (by omega)
          have k1 := hcell 1 (by omega)
          have k2 := hcell 2 (by omega)
          rw [add_add] at k0 k1 k2
          simp at e0 e1 e2
          subst e0 e1 e2
          exact ⟨(i0, i1, s2), by simpa using k0, by simpa using k1, by simpa using k2, hs2⟩
      obtain ⟨q, hq⟩ := choose_lt each
      obtain ⟨b, off, spot⟩ := a
      have hspot : spot = none := by simpa [Addr.add] using World.cell?_spot (hq 0 (by omega)).1
      subst hspot
      have hbW : b < W.heap.size := hlt (.cell b off) (List.mem_append_left _ (MemPlace.mem_row.2 ⟨0, by rw [cells29]; omega, by simp⟩))
      exact (plays_c W b off len cap (fun j => (q j).1) (fun j => (q j).2.1) (fun j => (q j).2.2) (by omega) (by unfold maxLen at hm; omega) hbW
        (fun j hj => by rw [← add_plain]; exact (hq j (by omega)).1) (fun j hj => by rw [Nat.add_assoc, ← add_plain]; exact (hq j (by omega)).2.1) (fun j hj => by rw [Nat.add_assoc, ← add_plain]; exact (hq j (by omega)).2.2.1) (fun j hj => (hq j (by omega)).2.2.2)).mono fin

theorem over : Rows.atomPlaysRow.holds Try.pinned (OpenSpec.ofChange Rows.atomPlaysSpec) :=
  OpenClaim.holds_of_wide 4 Try.f4 rfl rfl rfl rfl rfl rfl rfl ⟨rfl, rfl, rfl, rfl, rfl⟩ rfl rfl rfl rfl rfl (by kernel_rfl) Try.func4 (by kernel_rfl)
    (of_decide_eq_true (by kernel_rfl)) (by unfold Func.isWrapper; first | (rw [if_pos (by decide +kernel)]; kernel_rfl) | (rw [if_neg (by decide +kernel)]; exact ⟨rfl, rfl⟩))
    (fun os started H enc _ => lifted os started H enc)

/-- The statement. -/
theorem proved : Rows.AtomPlaysSaid := over
end Go.Proofs.Ytipdniiamaaolaa.atomPlays
namespace Go.Proofs.Ytipdniiamaaolaa
theorem atomPlays_holds : Rows.AtomPlaysSaid := atomPlays.proved
#print axioms atomPlays_holds
end Go.Proofs.Ytipdniiamaaolaa
