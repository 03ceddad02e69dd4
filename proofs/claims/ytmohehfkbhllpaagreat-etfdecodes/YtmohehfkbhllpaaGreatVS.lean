/-
  The reference's reader: Decode, where it reads no part.
-/
import Derived.Test.YtmohehfkbhllpaaGreatUM
import Derived.Test.YtmohehfkbhllpaaGreatMC
set_option linter.unusedVariables false
set_option linter.unusedSimpArgs false
namespace Go.Proofs.YtmohehfkbhllpaaGreat
open Go.RowKit Go.Maps
variable {S S' Z : Nat → Prop} {W W1 W' : World}
set_option maxRecDepth 20000 in
set_option maxHeartbeats 1600000 in
theorem refdec_long (ba : Option Addr) (bc : Nat) (m : List Int) (h : 131072 < m.length) (W : World) (hml : (m.length : Int) ≤ 9223372036854775807) : Calls Tryz.prog 6 #[(.slice ba m.length bc)] W fun e w' => EndV W e w' (.error 70) := by
  have hI : (131072 : Int) < (m.length : Int) := by omega
  have hN : decide (131072 < m.length) = true := by simp; omega
  clear h
  go_enter Tryz.func6, Tryz.ntmps6
  go_wp2
  exact bodyPost_ret (v := .tuple #[lf 0 0 0 0 e0 0 0 0, .int .i64 70]) (by simp [results, Tryz.results6, go_sem]) rfl ⟨rfl, by first | exact Gr.alloc _ _ _ | exact (Gr.alloc _ _ _).set9 (Nat.le_refl _) _ _ _ _ _ _ _ _ _⟩
/-- A state and a term of the reference's Decode in their blocks, and the block of its answer. -/
structure Sd (W : World) (sb tb : Nat) (bv nv : Value) (i n : Nat) (c : Int) (T : Array Value) (X : World) : Prop where
  res : X.heap[W.heap.size]? = some oz9
  st : X.heap[sb]? = some (.cells #[bv, .int .i64 (i : Int), .int .i64 (n : Int), nv, .int .i64 c] 51 (0, 0))
  tm : X.heap[tb]? = some (.cells T 31 (0, 0))
  gr : Gr (fun _ => False) W X
  l1 : W.heap.size < sb
  l2 : sb < tb
set_option maxRecDepth 20000 in
set_option maxHeartbeats 1600000 in
theorem refdec_none (ba : Option Addr) (bc : Nat) (W : World) : Calls Tryz.prog 6 #[.slice ba 0 bc] W fun e w' => EndV W e w' (.error 72) := by
  have h1 : ∀ W, Calls Tryz.prog 14 #[.agg #[.slice ba 0 bc, .int .i64 0, .int .i64 0, .slice none 0 0, .int .i64 0]] W fun e w' => e = .returned (.tuple #[.agg #[.slice ba 0 bc, .int .i64 0, .int .i64 0, .slice none 0 0, .int .i64 72], .int .u8 0]) ∧ Gr (fun _ => False) W w' := fun W => rone_no ba bc none 0 0 0 0 W
  go_enter Tryz.func6, Tryz.ntmps6
  go_wp2_with fail
  refine (h1 _).mono ?_
  rintro e w1 ⟨rfl, g1⟩
  have hR := g1.keep (heap_alloc_new W oz9) (fun e => e)
  have HG := Lib.hid ((Gr.alloc W oz9 (fun _ => False)).trans g1)
  obtain ⟨⟨z0, z1, z2, z3, z4, z5, z6, z7, z8⟩, zf⟩ := nine hR
  have l0 := (Array.getElem?_eq_some_iff.1 hR).1
  clear g1 h1
  go_wp2_with fail
  go_region
  all_goals
    go_wp2
    refine bodyPost_ret (v := .tuple #[lf 0 0 0 0 e0 0 0 0, .int .i64 72]) (by simp [results, Tryz.results6, go_sem, z0, z1, z2, z3, z4, z5, z6, z7, z8, l0]) rfl ?_
    exact ⟨rfl, by first | exact ((((HG.out.set9 (Nat.le_refl _) _ _ _ _ _ _ _ _ _).trans (Gr.alloc _ _ _)).trans (Gr.alloc _ _ _)).trans (Gr.drew _ _)) | exact (((HG.out.trans (Gr.alloc _ _ _)).trans (Gr.alloc _ _ _)).set9 (Nat.le_refl _) _ _ _ _ _ _ _ _ _).trans (Gr.drew _ _)⟩
set_option maxRecDepth 20000 in
set_option maxHeartbeats 1600000 in
theorem refdec_mark (ba : Option Addr) (bc : Nat) (m : List Int) (x : Int) (hx : m[0]? = some x) (hx69 : x ≠ 69) (hml : (m.length : Int) ≤ 131072) (W : World) (hq : Sq Z W (.slice ba m.length bc) m) : Calls Tryz.prog 6 #[(.slice ba m.length bc)] W fun e w' => EndV W e w' (.error 71) := by
  have h1 := Lib.hid (fun W (hq : Sq Z W (.slice ba m.length bc) m) => (show Calls Tryz.prog 14 #[.agg #[(.slice ba m.length bc), .int .i64 0, .int .i64 0, .slice none 0 0, .int .i64 0]] W fun e w' => e = .returned (.tuple #[.agg #[(.slice ba m.length bc), .int .i64 1, .int .i64 0, .slice none 0 0, .int .i64 0], .int .u8 x]) ∧ Gr (fun _ => False) W w' from rone_ok ba bc none 0 0 0 0 m x hx W hq))
  have h2 : ∀ W, Calls Tryz.prog 15 #[.agg #[(.slice ba m.length bc), .int .i64 1, .int .i64 0, .slice none 0 0, .int .i64 0], .int .i64 71] W fun e w' => e = .returned (.agg #[(.slice ba m.length bc), .int .i64 1, .int .i64 0, .slice none 0 0, .int .i64 71]) ∧ Gr (fun _ => False) W w' := fun W => fail_new ba m.length bc none 0 0 1 0 71 W
  have hb := hq.byte x (List.mem_of_getElem? hx)
  have hx0 : (0 : Int) ≤ x := hb.1
  have hx1 : x < 256 := hb.2
  have hnI : decide ((131072 : Int) < (m.length : Int)) = false := by simp; omega
  have hnN : decide (131072 < m.length) = false := by simp; omega
  have hxb : (x == 69) = false := by simpa using hx69
  have hxn : (x != 69) = true := by simpa using hx69
  have Hq := Lib.hid hq
  clear hx69 hx hb hq
  go_enter Tryz.func6, Tryz.ntmps6
  go_wp2_with fail
  refine (h1.out _ (Hq.out.gr (Gr.alloc W oz9 (fun _ => False)) (fun _ _ e => e))).mono ?_
  rintro e w1 ⟨rfl, g1⟩
  have hR := g1.keep (heap_alloc_new W oz9) (fun e => e)
  have HG := Lib.hid ((Gr.alloc W oz9 (fun _ => False)).trans g1)
  have l0 := (Array.getElem?_eq_some_iff.1 hR).1
  clear g1 h1
  go_wp2_with fail
  generalize hX : w1.alloc _ = X1
  have hS : X1.heap[w1.heap.size]? = some (.cells #[(.slice ba m.length bc), .int .i64 1, .int .i64 0, .slice none 0 0, .int .i64 0] 51 (0, 0)) := hX ▸ heap_alloc_new w1 _
  have HG1 : Hid (Gr (fun _ => False) W X1) := Lib.hid (HG.out.trans (hX ▸ Gr.alloc w1 _ _))
  have hR1 : X1.heap[W.heap.size]? = some oz9 := (hX ▸ Gr.alloc w1 _ (fun _ => False) : Gr (fun _ => False) w1 X1).keep hR (fun e => e)
  generalize w1.heap.size = sb at hS l0 ⊢
  clear hX HG hR
  refine (h2 _).mono ?_
  rintro e w2 ⟨rfl, g2⟩
  have hS2 := g2.keep hS (fun e => e)
  have hR2 := g2.keep hR1 (fun e => e)
  have HG2 := Lib.hid (HG1.out.trans g2)
  obtain ⟨⟨z0, z1, z2, z3, z4, z5, z6, z7, z8⟩, zf⟩ := nine hR2
  obtain ⟨⟨x0, x1, x2, x3, x4⟩, xf0, xf1, xf2, xf3, xf4⟩ := five hS2
  have l1 := (Array.getElem?_eq_some_iff.1 hR2).1
  have l2 := (Array.getElem?_eq_some_iff.1 hS2).1
  have ne1 : ¬ sb = W.heap.size := by omega
  have ne2 : ¬ W.heap.size = sb := by omega
  have G9 := Lib.hid (HG2.out.set5 (g := sb) (by omega) (.slice ba m.length bc) (.int .i64 1) (.int .i64 0) (.slice none 0 0) (.int .i64 71))
  have hR3 := Lib.hid ((Gr.own5 w2 sb (.slice ba m.length bc) (.int .i64 1) (.int .i64 0) (.slice none 0 0) (.int .i64 71)).keep hR2 (fun e => by omega))
  have hS3 := Lib.hid (set5_same (v0 := (.slice ba m.length bc)) (v1 := .int .i64 1) (v2 := .int .i64 0) (v3 := .slice none 0 0) (v4 := .int .i64 71) hS2)
  clear h2 HG1 hR1 g2 hS
  go_wp2_with fail
  generalize World.setCell (World.setCell (World.setCell (World.setCell (World.setCell w2 _ _) _ _) _ _) _ _) _ _ = X2 at G9 hR3 hS3 ⊢
  clear z0 z1 z2 z3 z4 z5 z6 z7 z8 zf x0 x1 x2 x3 x4 xf0 xf1 xf2 xf3 xf4 l1 l2
  obtain ⟨⟨z0, z1, z2, z3, z4, z5, z6, z7, z8⟩, zf⟩ := nine hR3.out
  obtain ⟨⟨x0, x1, x2, x3, x4⟩, xf0, xf1, xf2, xf3, xf4⟩ := five hS3.out
  have l1 := (Array.getElem?_eq_some_iff.1 hR3.out).1
  have l2 := (Array.getElem?_eq_some_iff.1 hS3.out).1
  go_region
  all_goals
    go_wp2
    refine bodyPost_ret (v := .tuple #[lf 0 0 0 0 e0 0 0 0, .int .i64 71]) (by simp [results, Tryz.results6, go_sem, z0, z1, z2, z3, z4, z5, z6, z7, z8, l1]) rfl ?_
    exact ⟨rfl, by first | exact ((G9.out.set9 (Nat.le_refl _) _ _ _ _ _ _ _ _ _).trans (Gr.alloc _ _ _)).trans (Gr.drew _ _) | exact ((G9.out.trans (Gr.alloc _ _ _)).set9 (Nat.le_refl _) _ _ _ _ _ _ _ _ _).trans (Gr.drew _ _)⟩
end Go.Proofs.YtmohehfkbhllpaaGreat
