/-
  Carried over from another seat of ours (BS).
-/
import Derived.Test.YtfamepdghememaaBC
import Derived.Test.YtfamepdghememaaR
set_option linter.unusedVariables false
set_option linter.unusedSimpArgs false
namespace Go.Proofs.Ytfamepdghememaa
open Go.RowKit Go.Maps
set_option maxRecDepth 100000 in
set_option maxHeartbeats 1600000 in
theorem fault_at7 (W : World) (kb g o : Nat) (n : Int) (x y : Nat) (s : ByteArray) (a c d : Int) (a1 : Option Addr) (n1 c1 : Nat) (a2 : Option Addr) (n2 c2 : Nat) (hK : Kd W kb) (hB : Ns W g o (ts 7 n x y s a c d a1 n1 c1 a2 n2 c2)) (vr : Value)
    (hrest : ∀ w, Calls Try.prog 49 #[ts 7 n x y s a c d a1 n1 c1 a2 n2 c2] w fun e w' => e = .returned vr ∧ Gr (fun _ => False) w w')
    (hblank : ∀ w, Calls Try.prog 61 #[vr] w fun e w' => e = .returned (.bool true) ∧ Gr (fun _ => False) w w')
    (hmay : ∀ w, Calls Try.prog 50 #[ts 7 n x y s a c d a1 n1 c1 a2 n2 c2] w fun e w' => e = .returned (.bool true) ∧ Gr (fun _ => False) w w')
    (h256 : (n2 : Int) ≤ 256) (dd z : Int) (hdd : dd ≤ 24) (hz : z ≤ 4096) :
    Calls Try.prog 38 #[pt kb, ptr g o, .int .i64 dd, .int .i64 z] W fun e w' => e = .returned (.int .i64 0) ∧ Gr (fun _ => False) W w' := by
  obtain ⟨c0, c1', c2', c3, c4, c5, c6, c7, c8⟩ := hB.facts
  obtain ⟨r0, r1, r2⟩ := hK.more.2.1
  have hg := hB.lt
  have hkb := hK.lt
  have q1 : ¬ 24 < dd := by omega
  have q2 : ¬ 4096 < z := by omega
  have q3 : ¬ (256 : Int) < (n2 : Int) := by omega
  clear hdd hz h256
  go_enter Try.func38, Try.ntmps38
  go_wp2_with fail
  go_region
  all_goals
    generalize hW1 : (W.alloc (Obj.cells #[Value.func (Fn.func 49) #[] #[], Value.func (Fn.func 50) #[] #[], Value.func (Fn.func 52) #[pt kb] #[]] 84)).drew = W1
    have hg1 : Gr (fun _ => False) W W1 := hW1 ▸ (Gr.alloc _ _ _).trans (Gr.drew _ _)
    have hrow : W1.heap[W.heap.size]? = some (.cells #[fv 49, fv 50, Value.func (Fn.func 52) #[pt kb] #[]] 84 (0, 0)) := hW1 ▸ (Gr.drew _ (fun _ => False)).keep (heap_alloc_new W _) (fun e => e)
    have hB1 := hB.gr hg1
    generalize W.heap.size = R at hrow ⊢
    clear c0 c1' c2' c3 c4 c5 c6 c7 c8 r0 r1 r2 hg hkb hW1 hK hB
    obtain ⟨c0, c1', c2', c3, c4, c5, c6, c7, c8⟩ := hB1.facts
    obtain ⟨r0, r1, r2⟩ := three87 hrow
    go_wp2_with fail
    go_region_with (first | (go_at_call 49; refine (hrest _).mono ?_; rintro e w2 ⟨rfl, hg2⟩) | (go_at_call 61; refine (hblank _).mono ?_; rintro e w3 ⟨rfl, hg3⟩) | fail)
  all_goals
    have hg13 := ((Gr.drew W1 (fun _ => False)).trans hg2).trans hg3
    have hB3 := hB1.gr hg13
    have hrow3 := hg13.keep hrow (fun e => e)
    clear c0 c1' c2' c3 c4 c5 c6 c7 c8 r0 r1 r2
    obtain ⟨c0, c1', c2', c3, c4, c5, c6, c7, c8⟩ := hB3.facts
    obtain ⟨r0, r1, r2⟩ := three87 hrow3
    go_wp2_with fail
    go_region_with (first | (go_at_call 50; refine (hmay _).mono ?_; rintro e w4 ⟨rfl, hg4⟩) | fail)
  all_goals
    have hg14 := hg13.trans ((Gr.drew w3 (fun _ => False)).trans hg4)
    have hB4 := hB1.gr hg14
    clear c0 c1' c2' c3 c4 c5 c6 c7 c8 r0 r1 r2
    obtain ⟨c0, c1', c2', c3, c4, c5, c6, c7, c8⟩ := hB4.facts
    go_wp2_with fail
    go_ret
    exact ⟨rfl, hg1.trans hg14⟩
theorem ok_list (l : List Tm) (hl : l.length ≤ 256) : FaultOk (.mk { k := 7 } [] l) := by
  intro A W kb g o v d z hK hrep hns hd hz
  obtain ⟨a1, c1, a2, c2, rfl⟩ := len0 hrep
  exact fault_at7 W kb g o 0 0 0 e0 0 0 0 a1 0 c1 a2 l.length c2 hK hns _ (fun w => withoutL_g 7 a1 0 c1 a2 l.length c2 w) (fun w => blank_g 7 a1 c1 none 0 w) (fun w => anyMay_g 7 0 0 0 e0 0 0 0 a1 0 c1 a2 l.length c2 w) (by omega) d z hd hz
end Go.Proofs.Ytfamepdghememaa



