/-
  The reference's table of builtins.
-/
import Derived.Test.YtjedbfbolifjjaaGreatDoorKC
import Derived.Laws.Tables
set_option linter.unusedVariables false
set_option linter.unusedSimpArgs false
namespace Go.Proofs.YtjedbfbolifjjaaGreatDoor
open Go.RowKit Go.Maps
theorem row_laid (W : World) (z cs : Array Value) (t : TypeId) : Gr (fun _ => False) W ((W.alloc (.cells z t)).setRow W.heap.size cs) ∧ ((W.alloc (.cells z t)).setRow W.heap.size cs).heap[W.heap.size]? = some (.cells cs t (0, 0)) := by
 refine ⟨⟨rfl, rfl, rfl, by simp, fun k hk _ => ?_⟩, setRow_heap _ _ z _ t _ (heap_alloc_new W _)⟩
 exact (setRow_other _ _ _ _ (by omega)).trans (heap_alloc_old W _ hk)
theorem i64a : (Tryz.prog.info? 64).map (·.size) = some raC.size := by kernel_rfl
theorem i63a : (Tryz.prog.info? 63).map (·.size) = some rnC.size := by kernel_rfl
set_option maxRecDepth 100000 in
set_option maxHeartbeats 1600000 in
theorem rarity_c (W : World) (n : Int) : Calls Tryz.prog 18 #[.int .i64 n] W fun e w' => e = .returned (.int .i64 (arV n)) ∧ Gr (fun _ => False) W w' := by
 unfold arV
 by_cases h1 : 1 ≤ n
 ·
  by_cases h2 : n ≤ 26
  ·
   rw [if_pos ⟨h1, h2⟩]
   obtain ⟨k, rfl⟩ : ∃ k : Nat, n = (k : Int) + 1 := ⟨(n - 1).toNat, by omega⟩
   have hk : k < 26 := by omega
   have hkI : (k : Int) < 26 := by omega
   rw [show ((k : Int) + 1 - 1).toNat = k by omega]
   have hat := Lib.hid (raC_at k hk)
   generalize bA k = A at hat ⊢
   have d1 : decide ((k : Int) + 1 < 1) = false := by simp; omega
   have d2 : decide (26 < (k : Int) + 1) = false := by simp; omega
   go_enter Tryz.func18, Tryz.ntmps18
   go_wp2_with (first
    | (refine wpList_build rfl 64 _ rfl (by kernel_rfl) ?_)
    | (refine wpList_store_row rfl 64 _ _ rfl W.heap.size raC rfl (by kernel_rfl) 64 _ (heap_alloc_new W _) i64a (by kernel_rfl) (by kernel_rfl) ?_; generalize hX : World.setRow (World.alloc W _) W.heap.size raC = X; obtain ⟨gX, hcX⟩ : Gr (fun _ => False) W X ∧ X.heap[W.heap.size]? = some (.cells raC 64 (0, 0)) := hX ▸ row_laid W _ raC 64; clear hX; have hlX : W.heap.size < X.heap.size := (Array.getElem?_eq_some_iff.1 hcX).1; have hfX : X.cell? ⟨W.heap.size, k, none⟩ = some (.int .i64 A) := (by simp only [World.cell?, hcX]; exact hat.out)))
   go_ret
   exact ⟨rfl, gX⟩
  ·
   rw [if_neg (fun h => h2 h.2)]
   have d1 : decide (n < 1) = false := by simp; omega
   have d2 : decide (26 < n) = true := by simp; omega
   go_enter Tryz.func18, Tryz.ntmps18
   go_wp2_with (first
    | (refine wpList_build rfl 64 _ rfl (by kernel_rfl) ?_)
    | (refine wpList_store_row rfl 64 _ _ rfl W.heap.size raC rfl (by kernel_rfl) 64 _ (heap_alloc_new W _) i64a (by kernel_rfl) (by kernel_rfl) ?_; generalize hX : World.setRow (World.alloc W _) W.heap.size raC = X; obtain ⟨gX, hcX⟩ : Gr (fun _ => False) W X ∧ X.heap[W.heap.size]? = some (.cells raC 64 (0, 0)) := hX ▸ row_laid W _ raC 64; clear hX; have hlX : W.heap.size < X.heap.size := (Array.getElem?_eq_some_iff.1 hcX).1))
   go_ret
   exact ⟨rfl, gX⟩
 ·
  rw [if_neg (fun h => h1 h.1)]
  have d1 : decide (n < 1) = true := by simp; omega
  go_enter Tryz.func18, Tryz.ntmps18
  go_wp2_with (first
   | (refine wpList_build rfl 64 _ rfl (by kernel_rfl) ?_)
   | (refine wpList_store_row rfl 64 _ _ rfl W.heap.size raC rfl (by kernel_rfl) 64 _ (heap_alloc_new W _) i64a (by kernel_rfl) (by kernel_rfl) ?_; generalize hX : World.setRow (World.alloc W _) W.heap.size raC = X; obtain ⟨gX, hcX⟩ : Gr (fun _ => False) W X ∧ X.heap[W.heap.size]? = some (.cells raC 64 (0, 0)) := hX ▸ row_laid W _ raC 64; clear hX; have hlX : W.heap.size < X.heap.size := (Array.getElem?_eq_some_iff.1 hcX).1))
  go_ret
  exact ⟨rfl, gX⟩
set_option maxRecDepth 100000 in
set_option maxHeartbeats 1600000 in
theorem rbuiltin_c (W : World) (s : ByteArray) (n : Int) : Calls Tryz.prog 16 #[.string s, .int .i64 n] W fun e w' => e = .returned (.int .i64 (biV s n : Int)) ∧ Gr (fun _ => False) W w' := by
 obtain ⟨r, hr⟩ : ∃ r, r = biV s n := ⟨_, rfl⟩
 rw [← hr]
 have Hr := Lib.hid hr
 clear hr
 have hat := Lib.hid rnC_at
 go_enter Tryz.func16, Tryz.ntmps16
 go_wp2_with (first
  | (refine wpList_build rfl 63 _ rfl (by kernel_rfl) ?_)
  | (refine wpList_store_row rfl 63 _ _ rfl W.heap.size rnC rfl (by kernel_rfl) 63 _ (heap_alloc_new W _) i63a (by kernel_rfl) (by kernel_rfl) ?_; generalize hX : World.setRow (World.alloc W _) W.heap.size rnC = w0; obtain ⟨gA, hA⟩ : Gr (fun _ => False) W w0 ∧ w0.heap[W.heap.size]? = some (.cells rnC 63 (0, 0)) := hX ▸ row_laid W _ rnC 63; clear hX))
 obtain ⟨tb, htb⟩ : ∃ tb, W.heap.size = tb := ⟨_, rfl⟩
 rw [htb] at hA ⊢
 have hcs : Hid (∀ (w : World), Gr (fun _ => False) w0 w → ∀ k, k < 26 → w.cell? ⟨tb, k, none⟩ = some (.string (bN k)) ∧ tb < w.heap.size) := fun w g k hk => by
  have := g.keep hA (fun e => e)
  exact ⟨by simp only [World.cell?, this]; exact hat.out k hk, (Array.getElem?_eq_some_iff.1 this).1⟩
 clear hA hat
 go_loopw [6] (fun u wr => ∃ k : Nat, k ≤ 26 ∧ u = .int .i64 (k : Int) ∧ Hid (r = fdB s n (26 - k) k) ∧ Gr (fun _ => False) w0 wr) (fun u _ => 26 - (intOf u).toNat)
 case atStart => exact ⟨0, by omega, rfl, Hr.out, Gr.refl _ _⟩
 case round =>
  obtain ⟨k, hk, rfl, Hk, hG⟩ := hrel
  by_cases hk2 : k = 26
  · subst hk2
    have e : r = 0 := by rw [Hk.out]; rfl
    subst e
    go_wp2_with fail
    go_ret
    exact ⟨rfl, gA.trans hG⟩
  ·
   have hk3 : k < 26 := by omega
   have hkI : (k : Int) < 26 := by omega
   obtain ⟨hx, hlt⟩ := hcs.out wr hG k hk3
   have Hc : Hid (r = if mtB s n k = true then k + 1 else fdB s n (26 - (k + 1)) (k + 1)) := by
    show r = _
    rw [Hk.out, show 26 - k = (26 - (k + 1)) + 1 by omega, fdB]
   have har : arV ((k : Int) + 1) = bA k := by
    unfold arV
    rw [if_pos ⟨by omega, by omega⟩, show ((k : Int) + 1 - 1).toNat = k by omega]
   have hcall := rarity_c wr ((k : Int) + 1)
   rw [har] at hcall
   replace hcall := Lib.hid hcall
   have HG := Lib.hid hG
   clear hG Hk har
   unfold mtB at Hc
   have Hk3 := Lib.hid hk3
   clear hk3 hk2
   generalize bN k = B at hx Hc
   generalize bA k = A at hcall Hc
   cases q1 : (B.toList == s.toList) with
   | false =>
    go_wp2_with fail
    refine ⟨⟨k + 1, Hk3.out, by go_num, ?_, HG.out⟩, by have := Hk3.out; simp [intOf]; omega⟩
    show r = _
    rw [Hc.out, q1, if_neg (by simp)]
   | true =>
    cases q2 : (A == n) with
    | false =>
     go_wp2_with fail
     refine hcall.out.mono ?_
     rintro e w3 ⟨rfl, g3⟩
     go_wp2_with fail
     refine ⟨⟨k + 1, Hk3.out, by go_num, ?_, HG.out.trans g3⟩, by have := Hk3.out; simp [intOf]; omega⟩
     show r = _
     rw [Hc.out, q1, q2, if_neg (by simp)]
    | true =>
     go_wp2_with fail
     refine hcall.out.mono ?_
     rintro e w3 ⟨rfl, g3⟩
     go_wp2_with fail
     go_ret
     refine ⟨?_, gA.trans (HG.out.trans g3)⟩
     rw [Hc.out, q1, q2, if_pos (by simp)]
     congr 1
end Go.Proofs.YtjedbfbolifjjaaGreatDoor
