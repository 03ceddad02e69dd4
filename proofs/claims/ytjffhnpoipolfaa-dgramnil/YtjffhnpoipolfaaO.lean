/-
  No net: what its calls answer.
-/
import Derived.Test.YtjffhnpoipolfaaN
set_option linter.unusedVariables false
set_option linter.unusedSimpArgs false
namespace Go.Proofs.Ytjffhnpoipolfaa
open Go.RowKit Go.Maps Go.WideMaps
variable {S S' : Nat → Prop} {W W1 W' : World}

def MN : World → World → Int → Prop := fun W1 w c => c = 1 ∧ G0 W1 w
def MNT : World → World → Dv → Bool → Int → Prop := fun W1 w d b c => b = false ∧ c = 1 ∧ G0 W1 w
theorem letsN (W : World) : Lets W W MN := fun W1 w c hg hs ⟨_, h⟩ => ⟨h.size, fun j _ hj => h.block j (by omega) (fun e => e)⟩
theorem letsNS (W : World) : LetsS W MN := fun W1 w c hg ⟨_, h⟩ => ⟨h.size, fun j _ hj => h.block j (by omega) (fun e => e)⟩
theorem letsNT (W : World) : LetsT W W MNT := fun W1 w d b c hg hs ⟨_, _, h⟩ => ⟨h.size, fun j _ hj => h.block j (by omega) (fun e => e)⟩
theorem send_nil (W : World) (f t : Int) (bv : Value) : Calls Try.prog 21 #[.pointer none, .int .i64 f, .int .i64 t, bv] W fun e w' => ∃ c, e = .returned (.int .i64 c) ∧ MN W w' c := by
  go_enter Try.func21, Try.ntmps21; go_wp2; go_ret; exact ⟨1, rfl, rfl, Gr.refl _ _⟩
theorem deliver_nil (W : World) (i : Int) : Calls Try.prog 23 #[.pointer none, .int .i64 i] W fun e w' => ∃ c, e = .returned (.int .i64 c) ∧ MN W w' c := by
  go_enter Try.func23, Try.ntmps23; go_wp2_with fail; refine (refuses_nil W i).mono ?_; rintro e w ⟨rfl, rfl⟩; go_wp2; go_ret; exact ⟨1, rfl, rfl, Gr.refl _ _⟩
theorem drop_nil (W : World) (i : Int) : Calls Try.prog 25 #[.pointer none, .int .i64 i] W fun e w' => ∃ c, e = .returned (.int .i64 c) ∧ MN W w' c := by
  go_enter Try.func25, Try.ntmps25; go_wp2_with fail; refine (refuses_nil W i).mono ?_; rintro e w ⟨rfl, rfl⟩; go_wp2; go_ret; exact ⟨1, rfl, rfl, Gr.refl _ _⟩
theorem twin_nil (W : World) (i : Int) : Calls Try.prog 22 #[.pointer none, .int .i64 i] W fun e w' => ∃ c, e = .returned (.int .i64 c) ∧ MN W w' c := by
  go_enter Try.func22, Try.ntmps22; go_wp2_with fail; refine (refuses_nil W i).mono ?_; rintro e w ⟨rfl, rfl⟩; go_wp2; go_ret; exact ⟨1, rfl, rfl, Gr.refl _ _⟩
theorem spoil_nil (W : World) (i a m : Int) : Calls Try.prog 26 #[.pointer none, .int .i64 i, .int .i64 a, .int .u32 m] W fun e w' => ∃ c, e = .returned (.int .i64 c) ∧ MN W w' c := by
  go_enter Try.func26, Try.ntmps26; go_wp2_with fail; refine (refuses_nil W i).mono ?_; rintro e w ⟨rfl, rfl⟩; go_wp2; go_ret; exact ⟨1, rfl, rfl, Gr.refl _ _⟩
theorem wipe_nil (W : World) (i : Int) : Calls Try.prog 27 #[.pointer none, .int .i64 i] W fun e w' => ∃ c, e = .returned (.int .i64 c) ∧ MN W w' c := by
  go_enter Try.func27, Try.ntmps27; go_wp2; go_ret; exact ⟨1, rfl, rfl, Gr.refl _ _⟩
theorem take_nil (W : World) (i : Int) : Calls Try.prog 24 #[.pointer none, .int .i64 i] W fun e w' => ∃ d b c, e = .returned (.tuple #[Dv.v d, .bool b, .int .i64 c]) ∧ MNT W w' d b c := by
  go_enter Try.func24, Try.ntmps24; go_wp2
  exact bodyPost_ret (v := .tuple #[zdv, .bool false, .int .i64 1]) (by simp [results, Try.results24, go_sem]) rfl ⟨⟨0, 0, 0, none, 0, 0, false⟩, false, 1, rfl, rfl, rfl, by exact Gr.alloc _ _ _⟩
theorem box_nil (W : World) (i : Int) : Calls Try.prog 18 #[.pointer none, .int .i64 i] W fun e w' => e = .returned (.int .i64 0) ∧ W = w' := by
  go_enter Try.func18, Try.ntmps18; go_wp2; go_ret; exact ⟨rfl, rfl⟩
theorem lost_nil (W : World) : Calls Try.prog 15 #[.pointer none] W fun e w' => e = .returned (.int .i64 0) ∧ W = w' := by
  go_enter Try.func15, Try.ntmps15; go_wp2; go_ret; exact ⟨rfl, rfl⟩
theorem do_nil (W : World) (k : Nat) (hk : k < 7) (f t i a m : Int) (bv : Value) (l : List Nat) (hs : Sl W bv l) : Calls Try.prog 12 #[.pointer none, ov (k : Int) f t i a m bv] W fun e w' => ∃ d : Dv, e = .returned (.tuple #[d.v, .bool false, .int .i64 1]) ∧ G0 W w' := by
  have z : ∀ c W1 w1 w', G0 W W1 → W1.heap.size = W.heap.size + 3 → MN W1 w1 c → Gr (fun j => W.heap.size ≤ j ∧ j < W.heap.size + 3) w1 w' → c = 1 ∧ G0 W w' := fun c W1 w1 w' g hz hm g2 => ⟨hm.1, (g.trans hm.2).trans' g2 (fun i hi e => by omega)⟩
  have did : ∀ e w', Did W MN e w' → ∃ d : Dv, e = .returned (.tuple #[d.v, .bool false, .int .i64 1]) ∧ G0 W w' := by
    rintro e w' ⟨c, W1, w1, rfl, h1, h2, h3, h4⟩
    obtain ⟨rfl, hg⟩ := z c W1 w1 w' h1 h2 h3 h4
    exact ⟨⟨0, 0, 0, none, 0, 0, false⟩, rfl, hg⟩
  match k, hk with
  | 0, _ =>
    refine (do_0 W (.pointer none) f t i a m bv l hs MN ⟨_, rfl⟩ (letsNS W) (fun W1 g cap _ _ _ => send_nil W1 f t _)).mono ?_
    rintro e w' ⟨c, W1, w1, rfl, h1, h3, h4⟩
    obtain ⟨rfl, hg⟩ := h3
    exact ⟨⟨0, 0, 0, none, 0, 0, false⟩, rfl, (h1.trans hg).trans' h4 (fun i hi e => by omega)⟩
  | 1, _ => exact (do_1 W (.pointer none) f t i a m bv MN ⟨_, rfl⟩ (letsN W) (fun W1 _ _ => deliver_nil W1 i)).mono did
  | 2, _ => exact (do_2 W (.pointer none) f t i a m bv MN ⟨_, rfl⟩ (letsN W) (fun W1 _ _ => drop_nil W1 i)).mono did
  | 3, _ => exact (do_3 W (.pointer none) f t i a m bv MN ⟨_, rfl⟩ (letsN W) (fun W1 _ _ => twin_nil W1 i)).mono did
  | 4, _ => exact (do_4 W (.pointer none) f t i a m bv MN ⟨_, rfl⟩ (letsN W) (fun W1 _ _ => spoil_nil W1 i a m)).mono did
  | 5, _ =>
    refine (do_5 W (.pointer none) f t i a m bv MNT ⟨_, rfl⟩ (letsNT W) (fun W1 _ _ => take_nil W1 f)).mono ?_
    rintro e w' ⟨d, b, c, W1, w1, rfl, h1, h2, ⟨rfl, rfl, h3⟩, h4⟩
    exact ⟨d, rfl, (h1.trans h3).trans' h4 (fun i hi e => by omega)⟩
  | 6, _ => exact (do_6 W (.pointer none) 6 (by decide) (by decide) (by decide) (by decide) (by decide) (by decide) f t i a m bv MN ⟨_, rfl⟩ (letsN W) (fun W1 _ _ => wipe_nil W1 f)).mono did
set_option maxRecDepth 20000 in
set_option maxHeartbeats 1600000 in
theorem nil_walk (W : World) (k f t i a m : Int) (bv : Value) (l : List Nat) (hs : Sl W bv l) : Calls Try.prog 7 #[ov k f t i a m bv] W fun e w' => e = .returned (.bool true) ∧ G0 W w' := by
  obtain ⟨ba, bc, rfl⟩ : ∃ a cap, bv = .slice a l.length cap := by
    rcases hs.at' with ⟨rfl, rfl⟩ | ⟨a, cap, rfl, h1, h2, h3⟩
    · exact ⟨_, _, rfl⟩
    · exact ⟨_, _, rfl⟩
  have Hs := Lib.hid hs
  clear hs
  go_enter Try.func7, Try.ntmps7
  go_wp2_with fail
  refine (alive_c _).mono ?_
  rintro e w1 ⟨rfl, hg1⟩
  have hb1 : w1.heap[W.heap.size]? = some (.cells #[.int .i64 k, .int .i64 f, .int .i64 t, .int .i64 i, .int .i64 a, .int .u32 m, .slice ba l.length bc] 36 (0, 0)) := (hg1.block _ (by simp) (fun e => e)).trans (heap_alloc_new _ _)
  have Hg1 := Lib.hid ((Gr.alloc W _ _).trans hg1)
  have Hb1 := Lib.hid hb1
  clear hg1 hb1
  go_wp2_with fail
  go_loopw [4, 5, 6, 7] (fun j _ _ _ wr => ∃ n : Nat, ∃ k', n ≤ 7 ∧ j = .int .i64 (n : Int) ∧ wr.heap[W.heap.size]? = some (.cells #[.int .i64 k', .int .i64 f, .int .i64 t, .int .i64 i, .int .i64 a, .int .u32 m, .slice ba l.length bc] 36 (0, 0)) ∧ G0 W wr) (fun j _ _ _ _ => 7 - (intOf j).toNat)
  case atStart => exact ⟨0, k, by omega, rfl, Hb1.out, Hg1.out⟩
  case round =>
    obtain ⟨n, k', hn, rfl, hb, hg⟩ := hrel
    obtain ⟨p0, p1, p2, p3, p4, p5, p6⟩ := seven hb
    have hfz : wr.frozen? ⟨W.heap.size, 0, none⟩ = false := by simp [World.frozen?, hb]
    by_cases hlt : n < 7
    · have hnI : (n : Int) < 7 := by omega
      have Hb := Lib.hid hb
      have Hg := Lib.hid hg
      clear hb hg
      go_wp2_with fail
      generalize hW2 : World.setCell wr _ _ = W2
      have hb2 : W2.heap[W.heap.size]? = some (.cells #[.int .i64 (n : Int), .int .i64 f, .int .i64 t, .int .i64 i, .int .i64 a, .int .u32 m, .slice ba l.length bc] 36 (0, 0)) := by rw [← hW2]; exact heap_setCell_same wr W.heap.size 0 _ 36 _ Hb.out
      have hg2 : G0 W W2 := by rw [← hW2]; exact Hg.out.cell _ _ (.inr (Nat.le_refl _))
      clear hW2
      refine (do_nil W2 n hlt f t i a m (.slice ba l.length bc) l (Hs.out.g0 hg2)).mono ?_
      rintro e w3 ⟨d, rfl, hg3⟩
      go_wp2_with fail
      exact ⟨⟨n + 1, n, by omega, by go_num, (heap_alloc_old _ _ (lt_of_blk ((hg3.block _ (lt_of_blk hb2) (fun e => e)).trans hb2))).trans ((hg3.block _ (lt_of_blk hb2) (fun e => e)).trans hb2), (hg2.trans hg3).trans (Gr.alloc _ _ _)⟩, by simp [intOf]; omega⟩
    · obtain rfl : n = 7 := by omega
      have Hg := Lib.hid hg
      clear hb hg
      go_wp2_with fail
      refine (flight_nil _).mono ?_
      rintro e w3 ⟨rfl, rfl⟩
      go_wp2_with fail
      refine (box_nil _ _).mono ?_
      rintro e w3 ⟨rfl, rfl⟩
      go_wp2_with fail
      refine (lost_nil _).mono ?_
      rintro e w3 ⟨rfl, rfl⟩
      go_wp2
      go_ret
      exact ⟨rfl, Hg.out⟩
end Go.Proofs.Ytjffhnpoipolfaa
