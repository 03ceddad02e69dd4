/-
  Carried over from another seat of ours (BS).
-/
import Derived.Test.YtmohehfkbhllpaaBC
import Derived.Test.YtmohehfkbhllpaaR
set_option linter.unusedVariables false
set_option linter.unusedSimpArgs false
namespace Go.Proofs.Ytmohehfkbhllpaa
open Go.RowKit Go.Maps
set_option maxRecDepth 20000 in
set_option maxHeartbeats 800000 in
theorem withoutZ_g (k : Int) (x y : Nat) (a1 : Option Addr) (n1 c1 : Nat) (a2 : Option Addr) (n2 c2 : Nat) (w : World) : Calls Try.prog 41 #[ts k 0 x y e0 0 0 0 a1 n1 c1 a2 n2 c2] w fun e w' => e = .returned (ts k 0 0 0 e0 0 0 0 a1 n1 c1 a2 n2 c2) ∧ Gr (fun _ => False) w w' := by
  go_enter Try.func41, Try.ntmps41
  go_wp2
  exact bodyPost_ret (v := ts k 0 0 0 e0 0 0 0 a1 n1 c1 a2 n2 c2) (by simp [results, Try.results41, go_sem]) rfl ⟨rfl, (Gr.alloc _ _ _).trans (Gr.alloc _ _ _)⟩
set_option maxRecDepth 20000 in
set_option maxHeartbeats 800000 in
theorem withoutId_g (k a c d : Int) (a1 : Option Addr) (n1 c1 : Nat) (a2 : Option Addr) (n2 c2 : Nat) (w : World) : Calls Try.prog 35 #[ts k 0 0 0 e0 a c d a1 n1 c1 a2 n2 c2] w fun e w' => e = .returned (ts k 0 0 0 e0 0 0 0 a1 n1 c1 a2 n2 c2) ∧ Gr (fun _ => False) w w' := by
  go_enter Try.func35, Try.ntmps35
  go_wp2
  exact bodyPost_ret (v := ts k 0 0 0 e0 0 0 0 a1 n1 c1 a2 n2 c2) (by simp [results, Try.results35, go_sem]) rfl ⟨rfl, (Gr.alloc _ _ _).trans (Gr.alloc _ _ _)⟩
set_option maxRecDepth 20000 in
set_option maxHeartbeats 800000 in
theorem right_cx_g (x y : Nat) (hx : x < 18446744073709551616) (hy : y < 18446744073709551616) (hrx : rp x = true) (hry : rp y = true) (a1 : Option Addr) (c1 : Nat) (a2 : Option Addr) (c2 : Nat) (w : World) : Calls Try.prog 39 #[ts 2 0 x y e0 0 0 0 a1 0 c1 a2 0 c2] w fun e w' => e = .returned (.bool true) ∧ Gr (fun _ => False) w w' := by
  have h1 := fun w => rightPart_c x hx w
  have h2 := fun w => rightPart_c y hy w
  rw [hrx] at h1
  rw [hry] at h2
  clear hx hy hrx hry
  go_enter Try.func39, Try.ntmps39
  go_wp2_with fail
  refine (h1 _).mono ?_
  rintro e w1 ⟨rfl, rfl⟩
  go_wp2_with fail
  refine (h2 _).mono ?_
  rintro e w1 ⟨rfl, rfl⟩
  go_wp2_with fail
  go_ret
  exact ⟨rfl, Gr.alloc _ _ _⟩
set_option maxRecDepth 20000 in
set_option maxHeartbeats 800000 in
theorem idMay_g (k a c d : Int) (h1 : 1 ≤ a) (h2 : a ≤ 64) (h3 : 1 ≤ c) (h4 : 1 ≤ d) (a1 : Option Addr) (n1 c1 : Nat) (a2 : Option Addr) (n2 c2 : Nat) (w : World) : Calls Try.prog 36 #[ts k 0 0 0 e0 a c d a1 n1 c1 a2 n2 c2] w fun e w' => e = .returned (.bool true) ∧ Gr (fun _ => False) w w' := by
  go_enter Try.func36, Try.ntmps36
  go_wp2
  go_ret
  exact ⟨rfl, Gr.alloc _ _ _⟩
set_option maxRecDepth 100000 in
set_option maxHeartbeats 1600000 in
theorem fault_at2 (W : World) (kb g o : Nat) (n : Int) (x y : Nat) (s : ByteArray) (a c d : Int) (a1 : Option Addr) (n1 c1 : Nat) (a2 : Option Addr) (n2 c2 : Nat) (hK : Kd W kb) (hB : Ns W g o (ts 2 n x y s a c d a1 n1 c1 a2 n2 c2)) (vr : Value)
    (hrest : ∀ w, Calls Try.prog 41 #[ts 2 n x y s a c d a1 n1 c1 a2 n2 c2] w fun e w' => e = .returned vr ∧ Gr (fun _ => False) w w')
    (hblank : ∀ w, Calls Try.prog 64 #[vr] w fun e w' => e = .returned (.bool true) ∧ Gr (fun _ => False) w w')
    (hmay : ∀ w, Calls Try.prog 39 #[ts 2 n x y s a c d a1 n1 c1 a2 n2 c2] w fun e w' => e = .returned (.bool true) ∧ Gr (fun _ => False) w w')
    (h256 : (n2 : Int) ≤ 256) (dd z : Int) (hdd : dd ≤ 24) (hz : z ≤ 4096) :
    Calls Try.prog 34 #[pt kb, ptr g o, .int .i64 dd, .int .i64 z] W fun e w' => e = .returned (.int .i64 0) ∧ Gr (fun _ => False) W w' := by
  obtain ⟨c0, c1', c2', c3, c4, c5, c6, c7, c8⟩ := hB.facts
  obtain ⟨r0, r1, r2⟩ := hK.cells.2.1
  have hg := hB.lt
  have hkb := hK.lt
  have q1 : ¬ 24 < dd := by omega
  have q2 : ¬ 4096 < z := by omega
  have q3 : ¬ (256 : Int) < (n2 : Int) := by omega
  clear hdd hz h256
  go_enter Try.func34, Try.ntmps34
  go_wp2_with fail
  go_region
  all_goals
    generalize hW1 : (W.alloc (Obj.cells #[Value.func (Fn.func 41) #[] #[], Value.func (Fn.func 39) #[] #[], fv 40] 89)).drew = W1
    have hg1 : Gr (fun _ => False) W W1 := hW1 ▸ (Gr.alloc _ _ _).trans (Gr.drew _ _)
    have hrow : W1.heap[W.heap.size]? = some (.cells #[fv 41, fv 39, fv 40] 89 (0, 0)) := hW1 ▸ (Gr.drew _ (fun _ => False)).keep (heap_alloc_new W _) (fun e => e)
    have hB1 := hB.gr hg1
    generalize W.heap.size = R at hrow ⊢
    clear c0 c1' c2' c3 c4 c5 c6 c7 c8 r0 r1 r2 hg hkb hW1 hK hB
    obtain ⟨c0, c1', c2', c3, c4, c5, c6, c7, c8⟩ := hB1.facts
    obtain ⟨r0, r1, r2⟩ := three87 hrow
    go_wp2_with fail
    go_region_with (first | (go_at_call 41; refine (hrest _).mono ?_; rintro e w2 ⟨rfl, hg2⟩) | (go_at_call 64; refine (hblank _).mono ?_; rintro e w3 ⟨rfl, hg3⟩) | fail)
  all_goals
    have hg13 := ((Gr.drew W1 (fun _ => False)).trans hg2).trans hg3
    have hB3 := hB1.gr hg13
    have hrow3 := hg13.keep hrow (fun e => e)
    clear c0 c1' c2' c3 c4 c5 c6 c7 c8 r0 r1 r2
    obtain ⟨c0, c1', c2', c3, c4, c5, c6, c7, c8⟩ := hB3.facts
    obtain ⟨r0, r1, r2⟩ := three87 hrow3
    go_wp2_with fail
    go_region_with (first | (go_at_call 39; refine (hmay _).mono ?_; rintro e w4 ⟨rfl, hg4⟩) | fail)
  all_goals
    have hg14 := hg13.trans ((Gr.drew w3 (fun _ => False)).trans hg4)
    have hB4 := hB1.gr hg14
    clear c0 c1' c2' c3 c4 c5 c6 c7 c8 r0 r1 r2
    obtain ⟨c0, c1', c2', c3, c4, c5, c6, c7, c8⟩ := hB4.facts
    go_wp2_with fail
    go_ret
    exact ⟨rfl, hg1.trans hg14⟩
set_option maxRecDepth 100000 in
set_option maxHeartbeats 1600000 in
theorem fault_at4 (W : World) (kb g o : Nat) (n : Int) (x y : Nat) (s : ByteArray) (a c d : Int) (a1 : Option Addr) (n1 c1 : Nat) (a2 : Option Addr) (n2 c2 : Nat) (hK : Kd W kb) (hB : Ns W g o (ts 4 n x y s a c d a1 n1 c1 a2 n2 c2)) (vr : Value)
    (hrest : ∀ w, Calls Try.prog 35 #[ts 4 n x y s a c d a1 n1 c1 a2 n2 c2] w fun e w' => e = .returned vr ∧ Gr (fun _ => False) w w')
    (hblank : ∀ w, Calls Try.prog 64 #[vr] w fun e w' => e = .returned (.bool true) ∧ Gr (fun _ => False) w w')
    (hmay : ∀ w, Calls Try.prog 36 #[ts 4 n x y s a c d a1 n1 c1 a2 n2 c2] w fun e w' => e = .returned (.bool true) ∧ Gr (fun _ => False) w w')
    (h256 : (n2 : Int) ≤ 256) (dd z : Int) (hdd : dd ≤ 24) (hz : z ≤ 4096) :
    Calls Try.prog 34 #[pt kb, ptr g o, .int .i64 dd, .int .i64 z] W fun e w' => e = .returned (.int .i64 0) ∧ Gr (fun _ => False) W w' := by
  obtain ⟨c0, c1', c2', c3, c4, c5, c6, c7, c8⟩ := hB.facts
  obtain ⟨r0, r1, r2⟩ := hK.cells.2.2.2.1
  have hg := hB.lt
  have hkb := hK.lt
  have q1 : ¬ 24 < dd := by omega
  have q2 : ¬ 4096 < z := by omega
  have q3 : ¬ (256 : Int) < (n2 : Int) := by omega
  clear hdd hz h256
  go_enter Try.func34, Try.ntmps34
  go_wp2_with fail
  go_region
  all_goals
    generalize hW1 : (W.alloc (Obj.cells #[Value.func (Fn.func 35) #[] #[], Value.func (Fn.func 36) #[] #[], fv 37] 89)).drew = W1
    have hg1 : Gr (fun _ => False) W W1 := hW1 ▸ (Gr.alloc _ _ _).trans (Gr.drew _ _)
    have hrow : W1.heap[W.heap.size]? = some (.cells #[fv 35, fv 36, fv 37] 89 (0, 0)) := hW1 ▸ (Gr.drew _ (fun _ => False)).keep (heap_alloc_new W _) (fun e => e)
    have hB1 := hB.gr hg1
    generalize W.heap.size = R at hrow ⊢
    clear c0 c1' c2' c3 c4 c5 c6 c7 c8 r0 r1 r2 hg hkb hW1 hK hB
    obtain ⟨c0, c1', c2', c3, c4, c5, c6, c7, c8⟩ := hB1.facts
    obtain ⟨r0, r1, r2⟩ := three87 hrow
    go_wp2_with fail
    go_region_with (first | (go_at_call 35; refine (hrest _).mono ?_; rintro e w2 ⟨rfl, hg2⟩) | (go_at_call 64; refine (hblank _).mono ?_; rintro e w3 ⟨rfl, hg3⟩) | fail)
  all_goals
    have hg13 := ((Gr.drew W1 (fun _ => False)).trans hg2).trans hg3
    have hB3 := hB1.gr hg13
    have hrow3 := hg13.keep hrow (fun e => e)
    clear c0 c1' c2' c3 c4 c5 c6 c7 c8 r0 r1 r2
    obtain ⟨c0, c1', c2', c3, c4, c5, c6, c7, c8⟩ := hB3.facts
    obtain ⟨r0, r1, r2⟩ := three87 hrow3
    go_wp2_with fail
    go_region_with (first | (go_at_call 36; refine (hmay _).mono ?_; rintro e w4 ⟨rfl, hg4⟩) | fail)
  all_goals
    have hg14 := hg13.trans ((Gr.drew w3 (fun _ => False)).trans hg4)
    have hB4 := hB1.gr hg14
    clear c0 c1' c2' c3 c4 c5 c6 c7 c8 r0 r1 r2
    obtain ⟨c0, c1', c2', c3, c4, c5, c6, c7, c8⟩ := hB4.facts
    go_wp2_with fail
    go_ret
    exact ⟨rfl, hg1.trans hg14⟩
set_option maxRecDepth 100000 in
set_option maxHeartbeats 1600000 in
theorem fault_at5 (W : World) (kb g o : Nat) (n : Int) (x y : Nat) (s : ByteArray) (a c d : Int) (a1 : Option Addr) (n1 c1 : Nat) (a2 : Option Addr) (n2 c2 : Nat) (hK : Kd W kb) (hB : Ns W g o (ts 5 n x y s a c d a1 n1 c1 a2 n2 c2)) (vr : Value)
    (hrest : ∀ w, Calls Try.prog 35 #[ts 5 n x y s a c d a1 n1 c1 a2 n2 c2] w fun e w' => e = .returned vr ∧ Gr (fun _ => False) w w')
    (hblank : ∀ w, Calls Try.prog 64 #[vr] w fun e w' => e = .returned (.bool true) ∧ Gr (fun _ => False) w w')
    (hmay : ∀ w, Calls Try.prog 36 #[ts 5 n x y s a c d a1 n1 c1 a2 n2 c2] w fun e w' => e = .returned (.bool true) ∧ Gr (fun _ => False) w w')
    (h256 : (n2 : Int) ≤ 256) (dd z : Int) (hdd : dd ≤ 24) (hz : z ≤ 4096) :
    Calls Try.prog 34 #[pt kb, ptr g o, .int .i64 dd, .int .i64 z] W fun e w' => e = .returned (.int .i64 0) ∧ Gr (fun _ => False) W w' := by
  obtain ⟨c0, c1', c2', c3, c4, c5, c6, c7, c8⟩ := hB.facts
  obtain ⟨r0, r1, r2⟩ := hK.cells.2.2.2.2
  have hg := hB.lt
  have hkb := hK.lt
  have q1 : ¬ 24 < dd := by omega
  have q2 : ¬ 4096 < z := by omega
  have q3 : ¬ (256 : Int) < (n2 : Int) := by omega
  clear hdd hz h256
  go_enter Try.func34, Try.ntmps34
  go_wp2_with fail
  go_region
  all_goals
    generalize hW1 : (W.alloc (Obj.cells #[Value.func (Fn.func 35) #[] #[], Value.func (Fn.func 36) #[] #[], fv 37] 89)).drew = W1
    have hg1 : Gr (fun _ => False) W W1 := hW1 ▸ (Gr.alloc _ _ _).trans (Gr.drew _ _)
    have hrow : W1.heap[W.heap.size]? = some (.cells #[fv 35, fv 36, fv 37] 89 (0, 0)) := hW1 ▸ (Gr.drew _ (fun _ => False)).keep (heap_alloc_new W _) (fun e => e)
    have hB1 := hB.gr hg1
    generalize W.heap.size = R at hrow ⊢
    clear c0 c1' c2' c3 c4 c5 c6 c7 c8 r0 r1 r2 hg hkb hW1 hK hB
    obtain ⟨c0, c1', c2', c3, c4, c5, c6, c7, c8⟩ := hB1.facts
    obtain ⟨r0, r1, r2⟩ := three87 hrow
    go_wp2_with fail
    go_region_with (first | (go_at_call 35; refine (hrest _).mono ?_; rintro e w2 ⟨rfl, hg2⟩) | (go_at_call 64; refine (hblank _).mono ?_; rintro e w3 ⟨rfl, hg3⟩) | fail)
  all_goals
    have hg13 := ((Gr.drew W1 (fun _ => False)).trans hg2).trans hg3
    have hB3 := hB1.gr hg13
    have hrow3 := hg13.keep hrow (fun e => e)
    clear c0 c1' c2' c3 c4 c5 c6 c7 c8 r0 r1 r2
    obtain ⟨c0, c1', c2', c3, c4, c5, c6, c7, c8⟩ := hB3.facts
    obtain ⟨r0, r1, r2⟩ := three87 hrow3
    go_wp2_with fail
    go_region_with (first | (go_at_call 36; refine (hmay _).mono ?_; rintro e w4 ⟨rfl, hg4⟩) | fail)
  all_goals
    have hg14 := hg13.trans ((Gr.drew w3 (fun _ => False)).trans hg4)
    have hB4 := hB1.gr hg14
    clear c0 c1' c2' c3 c4 c5 c6 c7 c8 r0 r1 r2
    obtain ⟨c0, c1', c2', c3, c4, c5, c6, c7, c8⟩ := hB4.facts
    go_wp2_with fail
    go_ret
    exact ⟨rfl, hg1.trans hg14⟩
set_option maxRecDepth 100000 in
set_option maxHeartbeats 1600000 in
theorem fault_at7 (W : World) (kb g o : Nat) (n : Int) (x y : Nat) (s : ByteArray) (a c d : Int) (a1 : Option Addr) (n1 c1 : Nat) (a2 : Option Addr) (n2 c2 : Nat) (hK : Kd W kb) (hB : Ns W g o (ts 7 n x y s a c d a1 n1 c1 a2 n2 c2)) (vr : Value)
    (hrest : ∀ w, Calls Try.prog 45 #[ts 7 n x y s a c d a1 n1 c1 a2 n2 c2] w fun e w' => e = .returned vr ∧ Gr (fun _ => False) w w')
    (hblank : ∀ w, Calls Try.prog 64 #[vr] w fun e w' => e = .returned (.bool true) ∧ Gr (fun _ => False) w w')
    (hmay : ∀ w, Calls Try.prog 46 #[ts 7 n x y s a c d a1 n1 c1 a2 n2 c2] w fun e w' => e = .returned (.bool true) ∧ Gr (fun _ => False) w w')
    (h256 : (n2 : Int) ≤ 256) (dd z : Int) (hdd : dd ≤ 24) (hz : z ≤ 4096) :
    Calls Try.prog 34 #[pt kb, ptr g o, .int .i64 dd, .int .i64 z] W fun e w' => e = .returned (.int .i64 0) ∧ Gr (fun _ => False) W w' := by
  obtain ⟨c0, c1', c2', c3, c4, c5, c6, c7, c8⟩ := hB.facts
  obtain ⟨r0, r1, r2⟩ := hK.more.2.1
  have hg := hB.lt
  have hkb := hK.lt
  have q1 : ¬ 24 < dd := by omega
  have q2 : ¬ 4096 < z := by omega
  have q3 : ¬ (256 : Int) < (n2 : Int) := by omega
  clear hdd hz h256
  go_enter Try.func34, Try.ntmps34
  go_wp2_with fail
  go_region
  all_goals
    generalize hW1 : (W.alloc (Obj.cells #[Value.func (Fn.func 45) #[] #[], Value.func (Fn.func 46) #[] #[], Value.func (Fn.func 48) #[pt kb] #[]] 89)).drew = W1
    have hg1 : Gr (fun _ => False) W W1 := hW1 ▸ (Gr.alloc _ _ _).trans (Gr.drew _ _)
    have hrow : W1.heap[W.heap.size]? = some (.cells #[fv 45, fv 46, Value.func (Fn.func 48) #[pt kb] #[]] 89 (0, 0)) := hW1 ▸ (Gr.drew _ (fun _ => False)).keep (heap_alloc_new W _) (fun e => e)
    have hB1 := hB.gr hg1
    generalize W.heap.size = R at hrow ⊢
    clear c0 c1' c2' c3 c4 c5 c6 c7 c8 r0 r1 r2 hg hkb hW1 hK hB
    obtain ⟨c0, c1', c2', c3, c4, c5, c6, c7, c8⟩ := hB1.facts
    obtain ⟨r0, r1, r2⟩ := three87 hrow
    go_wp2_with fail
    go_region_with (first | (go_at_call 45; refine (hrest _).mono ?_; rintro e w2 ⟨rfl, hg2⟩) | (go_at_call 64; refine (hblank _).mono ?_; rintro e w3 ⟨rfl, hg3⟩) | fail)
  all_goals
    have hg13 := ((Gr.drew W1 (fun _ => False)).trans hg2).trans hg3
    have hB3 := hB1.gr hg13
    have hrow3 := hg13.keep hrow (fun e => e)
    clear c0 c1' c2' c3 c4 c5 c6 c7 c8 r0 r1 r2
    obtain ⟨c0, c1', c2', c3, c4, c5, c6, c7, c8⟩ := hB3.facts
    obtain ⟨r0, r1, r2⟩ := three87 hrow3
    go_wp2_with fail
    go_region_with (first | (go_at_call 46; refine (hmay _).mono ?_; rintro e w4 ⟨rfl, hg4⟩) | fail)
  all_goals
    have hg14 := hg13.trans ((Gr.drew w3 (fun _ => False)).trans hg4)
    have hB4 := hB1.gr hg14
    clear c0 c1' c2' c3 c4 c5 c6 c7 c8 r0 r1 r2
    obtain ⟨c0, c1', c2', c3, c4, c5, c6, c7, c8⟩ := hB4.facts
    go_wp2_with fail
    go_ret
    exact ⟨rfl, hg1.trans hg14⟩
theorem ok_cx (x y : Nat) (hx : x < 18446744073709551616) (hy : y < 18446744073709551616) (hrx : rp x = true) (hry : rp y = true) : FaultOk (.mk { k := 2, x := x, y := y } [] []) := by
  intro A W kb g o v d z hK hrep hns hd hz
  obtain ⟨a1, c1, a2, c2, rfl⟩ := len0 hrep
  exact fault_at2 W kb g o 0 x y e0 0 0 0 a1 0 c1 a2 0 c2 hK hns _ (fun w => withoutZ_g 2 x y a1 0 c1 a2 0 c2 w) (fun w => blank_g 2 a1 c1 a2 c2 w) (fun w => right_cx_g x y hx hy hrx hry a1 c1 a2 c2 w) (by decide) d z hd hz
theorem ok_ref (a c d : Int) (h1 : 1 ≤ a) (h2 : a ≤ 64) (h3 : 1 ≤ c) (h4 : 1 ≤ d) : FaultOk (.mk { k := 4, a := a, c := c, d := d } [] []) := by
  intro A W kb g o v dd z hK hrep hns hd hz
  obtain ⟨a1, c1, a2, c2, rfl⟩ := len0 hrep
  exact fault_at4 W kb g o 0 0 0 e0 a c d a1 0 c1 a2 0 c2 hK hns _ (fun w => withoutId_g 4 a c d a1 0 c1 a2 0 c2 w) (fun w => blank_g 4 a1 c1 a2 c2 w) (fun w => idMay_g 4 a c d h1 h2 h3 h4 a1 0 c1 a2 0 c2 w) (by decide) dd z hd hz
theorem ok_pid (a c d : Int) (h1 : 1 ≤ a) (h2 : a ≤ 64) (h3 : 1 ≤ c) (h4 : 1 ≤ d) : FaultOk (.mk { k := 5, a := a, c := c, d := d } [] []) := by
  intro A W kb g o v dd z hK hrep hns hd hz
  obtain ⟨a1, c1, a2, c2, rfl⟩ := len0 hrep
  exact fault_at5 W kb g o 0 0 0 e0 a c d a1 0 c1 a2 0 c2 hK hns _ (fun w => withoutId_g 5 a c d a1 0 c1 a2 0 c2 w) (fun w => blank_g 5 a1 c1 a2 c2 w) (fun w => idMay_g 5 a c d h1 h2 h3 h4 a1 0 c1 a2 0 c2 w) (by decide) dd z hd hz
theorem ok_list (l : List Tm) (hl : l.length ≤ 256) : FaultOk (.mk { k := 7 } [] l) := by
  intro A W kb g o v d z hK hrep hns hd hz
  obtain ⟨a1, c1, a2, c2, rfl⟩ := len0 hrep
  exact fault_at7 W kb g o 0 0 0 e0 0 0 0 a1 0 c1 a2 l.length c2 hK hns _ (fun w => withoutL_g 7 a1 0 c1 a2 l.length c2 w) (fun w => blank_g 7 a1 c1 none 0 w) (fun w => anyMay_g 7 0 0 0 e0 0 0 0 a1 0 c1 a2 l.length c2 w) (by omega) d z hd hz
end Go.Proofs.Ytmohehfkbhllpaa

