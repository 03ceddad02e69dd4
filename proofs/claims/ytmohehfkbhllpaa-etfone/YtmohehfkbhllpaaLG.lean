/-
  Encode of a tree whose parts are right and whose bytes are known.
-/
import Derived.Test.YtmohehfkbhllpaaLF
import Derived.Test.YtmohehfkbhllpaaBC
set_option linter.unusedVariables false
set_option linter.unusedSimpArgs false
namespace Go.Proofs.Ytmohehfkbhllpaa
open Go.RowKit Go.Maps
variable {S S' G : Nat → Prop} {W W1 W' : World}

set_option maxRecDepth 20000 in
set_option maxHeartbeats 1600000 in
theorem encode_k (A : Nat → Prop) (W : World) (T : Tm) (v : Value) (n : Nat) (x : List Int) (ns' : List ByteArray) (hrep : Rep A W T v) (hA : ∀ k, A k → k < W.heap.size) (hh : hgt T < 9223372036854775000)
    (hok : okT Pw stepW T 1 0) (hgo : goT stepW T 1 0 = .ok n) (hwp : WpOk T [] x ns') (hl : x.length + 1 ≤ 131072) :
    Calls Try.prog 7 #[v] W fun e w' => ∃ bv, e = .returned (.tuple #[bv, .int .i64 0]) ∧ Ob 0 w' bv (69 :: x) ∧ Gr (fun _ => False) W w' := by
  have hck := fun w v (g : Gr (fun _ => False) W w) (h : Rep A w T v) => check_t A w T v n h (fun k hk => by have := hA k hk; have := g.size; omega) hh hok hgo
  have hrepg := fun w2 (g : Gr (fun _ => False) W w2) => hrep.turn (A' := A) (W' := w2) (fun k hk _ => ⟨hk, g.block k (hA k hk) (fun e => e)⟩)
  obtain ⟨tk, tn, tx, ty, ts', ta, tc, td, a1, n1, c1, a2, n2, c2, rfl⟩ := hrep.agg
  have hBx : Bx (W.alloc (.cells #[.int .i64 tk, .int .i64 tn, .complex .f64 tx ty, .string ts', .int .i64 ta, .int .u32 tc, .int .u64 td, .slice a1 n1 c1, .slice a2 n2 c2] 31)) W.heap.size tk tn tx ty ts' ta tc td (.slice a1 n1 c1) (.slice a2 n2 c2) := heap_alloc_new W _
  have g0 : Gr (fun _ => False) W (W.alloc (.cells #[.int .i64 tk, .int .i64 tn, .complex .f64 tx ty, .string ts', .int .i64 ta, .int .u32 tc, .int .u64 td, .slice a1 n1 c1, .slice a2 n2 c2] 31)) := Gr.alloc _ _ _
  have hC := Lib.hid (hck _ _ g0 (hrepg _ g0))
  replace hBx := Lib.hid hBx
  clear hck hok hgo hrep
  replace hrepg := Lib.hid hrepg
  replace hwp := Lib.hid hwp
  go_enter Try.func7, Try.ntmps7
  go_wp2_with fail
  refine (Hid.out hC).mono ?_
  rintro e w1 ⟨rfl, hg1⟩
  have hB1 := hBx.out.gr hg1 (fun e => e)
  have g1 := g0.trans hg1
  go_wp2_with fail
  generalize hW2 : w1.alloc _ = w2
  have g2 : Gr (fun _ => False) w1 w2 := hW2 ▸ Gr.alloc _ _ _
  have hlit : Ob 0 w2 (.slice (some ⟨w1.heap.size, 0, none⟩) 1 1) [69] := hW2 ▸ Ob.lit 0 w1 [69] (by simp) (Nat.zero_le _) #[.int .u8 69] rfl 1 rfl
  have hs2 : w2.heap.size = w1.heap.size + 1 := by rw [← hW2]; simp
  clear hW2
  refine (new_c w2).mono ?_
  rintro e w3 ⟨rfl, htab3, g3⟩
  have g13 := g2.trans g3
  have hB3 := hB1.gr g13 (fun e => e)
  have hf3 := hB3.facts
  have hX3 := hB3.lt
  rw [hs2] at htab3
  have hs3 : w1.heap.size + 1 < w3.heap.size := (Array.getElem?_eq_some_iff.1 htab3.blk).1
  have hsW : W.heap.size ≤ w1.heap.size := g1.size
  obtain ⟨m5, hm5⟩ : ∃ m, Hid (([69] ++ x).length = m) := ⟨_, Lib.hid rfl⟩
  have hm5I : ¬ (131072 : Int) < (m5 : Int) := by have := hm5.out; simp at this; omega
  have hcall := fun (o : Obj) (ho : o = .cells #[.slice (some ⟨w1.heap.size, 0, none⟩) 1 1, pt (w1.heap.size + 1)] 50) => hwp.out A (fun k => w1.heap.size ≤ k ∧ k ≤ w3.heap.size) (w3.alloc o) w3.heap.size (w1.heap.size + 1) [69] _ (.slice (some ⟨w1.heap.size, 0, none⟩) 1 1)
    (hrepg.out _ ((g1.trans g13).trans (Gr.alloc w3 o _))) (fun k hk => ⟨by have := hA k hk; simp; omega, fun e => by have := hA k hk; omega⟩) (fun k e => by simp; omega)
    ⟨ho ▸ heap_alloc_new w3 _, hlit.g0 (g3.trans (Gr.alloc _ _ _)), ⟨none, .slice none 0 0, htab3.gr (Gr.alloc w3 o (fun _ => False)) (fun _ _ e => e), fun k e => by
      rcases e with rfl | e | e
      · constructor <;> omega
      · cases e
      · simp [Value.ownBlock] at e⟩, ⟨by omega, Nat.le_refl _⟩, fun k e => by simp [Value.ownBlock] at e; subst e; constructor <;> omega⟩ (by simp; omega)
  replace hcall := Lib.hid hcall
  clear htab3 hlit hA hB1 hC
  go_wp2_with fail
  refine (hcall.out _ rfl).mono ?_
  rintro e w5 ⟨rfl, hw5⟩
  obtain ⟨G5, bv5, h5, hG5⟩ := hw5.at_
  have ho5 := h5.row
  obtain ⟨za, zc, rfl⟩ := h5.row.sv
  obtain ⟨q0, q1, qf⟩ := two50 h5.blk
  have hgr : Gr (fun _ => False) W w5 := by
    refine ((g1.trans g13).trans (Gr.alloc w3 _ _)).trans' hw5.gr (fun i hi e => ?_)
    omega
  rw [hm5.out] at q0 ho5
  clear hcall hw5 h5 hB3 hf3
  go_wp2_with fail
  go_ret2
  exact ⟨_, rfl, ho5, hgr⟩
end Go.Proofs.Ytmohehfkbhllpaa
