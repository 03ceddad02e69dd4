/-
  The reference's Do: refusals, kinds 1 to 4.
-/
import Derived.Test.YtjffhnpoipolfaaZA
set_option linter.unusedVariables false
set_option linter.unusedSimpArgs false
namespace Go.Proofs.Ytjffhnpoipolfaa
open Go.RowKit Go.Maps Go.WideMaps
variable {S S' Y : Nat → Prop} {W W1 W' : World}
set_option maxRecDepth 20000 in
set_option maxHeartbeats 400000 in
theorem do1_none (W : World) (nodes : Int) (sent : Nat) (wa : Option Addr) (wl wc : Nat) (ba : Option Addr) (bl bc : Nat) (lost : Nat) (f t i a m : Int) (oa : Option Addr) (ol oc : Nat) (hl : (wl : Int) ≤ 1024) (hi : i < 0 ∨ (wl : Int) ≤ i) :
    Calls Try.prog 13 #[rv nodes sent (.slice wa wl wc) (.slice ba bl bc) lost, ov 1 f t i a m (.slice oa ol oc)] W (EndD W (No (rv nodes sent (.slice wa wl wc) (.slice ba bl bc) lost) 92)) := by
  have HB := Lib.hid (b5_new W nodes sent (.slice wa wl wc) (.slice ba bl bc) lost 1 f t i a m (.slice oa ol oc))
  obtain ⟨w9, hw9⟩ : ∃ w, W5 W nodes sent (.slice wa wl wc) (.slice ba bl bc) lost 1 f t i a m (.slice oa ol oc) = w := ⟨_, rfl⟩
  rw [hw9] at HB
  by_cases h0 : i < 0
  ·
    obtain ⟨a09, a19, a29, a39, a49, fa09, fa19, fa29, fa39, fa49⟩ := five HB.out.xa
    obtain ⟨b09, b19, b29, b39, b49, b59, b69⟩ := seven HB.out.xb
    obtain ⟨c09, c19, c29, c39, c49, c59, c69, c79, c89, c99⟩ := five HB.out.xc
    obtain ⟨d09, d19, d29, d39, d49, d59, d69, d79, d89, d99⟩ := five HB.out.xd
    obtain ⟨e09, e19, e29, e39, e49, _⟩ := five HB.out.xe
    go_enter Try.func13, Try.ntmps13
    go_wp2_with fail
    go_region
    all_goals
      go_wp2
      refine bodyPost_ret (v := .tuple #[rv nodes sent (.slice wa wl wc) (.slice ba bl bc) lost, zdv, .bool false, .int .i64 92]) (by simp [results, Try.results13, go_sem, c09, c19, c29, c39, c49, d09, d19, d29, d39, d49]) rfl ?_
      exact ⟨_, _, _, _, rfl, ⟨rfl, rfl, rfl, rfl⟩, by first | exact (fin10 (HB.out.xg.cell5 (W.heap.size + 1 + 1 + 1 + 1) _ _ _ _ _ (.inr (by omega))) _ _ _ _ _ _ _ _ _ _).trans (Gr.drew _ _) | exact (fin10' (HB.out.xg.cell5 (W.heap.size + 1 + 1 + 1 + 1) _ _ _ _ _ (.inr (by omega))) _ _ _ _ _ _ _ _ _ _).trans (Gr.drew _ _)⟩
  · have h1 : (wl : Int) ≤ i := by omega
    clear hi
    obtain ⟨a09, a19, a29, a39, a49, fa09, fa19, fa29, fa39, fa49⟩ := five HB.out.xa
    obtain ⟨b09, b19, b29, b39, b49, b59, b69⟩ := seven HB.out.xb
    obtain ⟨c09, c19, c29, c39, c49, c59, c69, c79, c89, c99⟩ := five HB.out.xc
    obtain ⟨d09, d19, d29, d39, d49, d59, d69, d79, d89, d99⟩ := five HB.out.xd
    obtain ⟨e09, e19, e29, e39, e49, _⟩ := five HB.out.xe
    go_enter Try.func13, Try.ntmps13
    go_wp2_with fail
    go_region
    all_goals
      go_wp2
      refine bodyPost_ret (v := .tuple #[rv nodes sent (.slice wa wl wc) (.slice ba bl bc) lost, zdv, .bool false, .int .i64 92]) (by simp [results, Try.results13, go_sem, c09, c19, c29, c39, c49, d09, d19, d29, d39, d49]) rfl ?_
      exact ⟨_, _, _, _, rfl, ⟨rfl, rfl, rfl, rfl⟩, by first | exact (fin10 (HB.out.xg.cell5 (W.heap.size + 1 + 1 + 1 + 1) _ _ _ _ _ (.inr (by omega))) _ _ _ _ _ _ _ _ _ _).trans (Gr.drew _ _) | exact (fin10' (HB.out.xg.cell5 (W.heap.size + 1 + 1 + 1 + 1) _ _ _ _ _ (.inr (by omega))) _ _ _ _ _ _ _ _ _ _).trans (Gr.drew _ _)⟩
set_option maxRecDepth 20000 in
set_option maxHeartbeats 400000 in
theorem do2_none (W : World) (nodes : Int) (sent : Nat) (wa : Option Addr) (wl wc : Nat) (ba : Option Addr) (bl bc : Nat) (lost : Nat) (f t i a m : Int) (oa : Option Addr) (ol oc : Nat) (hl : (wl : Int) ≤ 1024) (hi : i < 0 ∨ (wl : Int) ≤ i) :
    Calls Try.prog 13 #[rv nodes sent (.slice wa wl wc) (.slice ba bl bc) lost, ov 2 f t i a m (.slice oa ol oc)] W (EndD W (No (rv nodes sent (.slice wa wl wc) (.slice ba bl bc) lost) 92)) := by
  have HB := Lib.hid (b5_new W nodes sent (.slice wa wl wc) (.slice ba bl bc) lost 2 f t i a m (.slice oa ol oc))
  obtain ⟨w9, hw9⟩ : ∃ w, W5 W nodes sent (.slice wa wl wc) (.slice ba bl bc) lost 2 f t i a m (.slice oa ol oc) = w := ⟨_, rfl⟩
  rw [hw9] at HB
  by_cases h0 : i < 0
  ·
    obtain ⟨a09, a19, a29, a39, a49, fa09, fa19, fa29, fa39, fa49⟩ := five HB.out.xa
    obtain ⟨b09, b19, b29, b39, b49, b59, b69⟩ := seven HB.out.xb
    obtain ⟨c09, c19, c29, c39, c49, c59, c69, c79, c89, c99⟩ := five HB.out.xc
    obtain ⟨d09, d19, d29, d39, d49, d59, d69, d79, d89, d99⟩ := five HB.out.xd
    obtain ⟨e09, e19, e29, e39, e49, _⟩ := five HB.out.xe
    go_enter Try.func13, Try.ntmps13
    go_wp2_with fail
    go_region
    all_goals
      go_wp2
      refine bodyPost_ret (v := .tuple #[rv nodes sent (.slice wa wl wc) (.slice ba bl bc) lost, zdv, .bool false, .int .i64 92]) (by simp [results, Try.results13, go_sem, c09, c19, c29, c39, c49, d09, d19, d29, d39, d49]) rfl ?_
      exact ⟨_, _, _, _, rfl, ⟨rfl, rfl, rfl, rfl⟩, by first | exact (fin10 (HB.out.xg.cell5 (W.heap.size + 1 + 1 + 1 + 1) _ _ _ _ _ (.inr (by omega))) _ _ _ _ _ _ _ _ _ _).trans (Gr.drew _ _) | exact (fin10' (HB.out.xg.cell5 (W.heap.size + 1 + 1 + 1 + 1) _ _ _ _ _ (.inr (by omega))) _ _ _ _ _ _ _ _ _ _).trans (Gr.drew _ _)⟩
  · have h1 : (wl : Int) ≤ i := by omega
    clear hi
    obtain ⟨a09, a19, a29, a39, a49, fa09, fa19, fa29, fa39, fa49⟩ := five HB.out.xa
    obtain ⟨b09, b19, b29, b39, b49, b59, b69⟩ := seven HB.out.xb
    obtain ⟨c09, c19, c29, c39, c49, c59, c69, c79, c89, c99⟩ := five HB.out.xc
    obtain ⟨d09, d19, d29, d39, d49, d59, d69, d79, d89, d99⟩ := five HB.out.xd
    obtain ⟨e09, e19, e29, e39, e49, _⟩ := five HB.out.xe
    go_enter Try.func13, Try.ntmps13
    go_wp2_with fail
    go_region
    all_goals
      go_wp2
      refine bodyPost_ret (v := .tuple #[rv nodes sent (.slice wa wl wc) (.slice ba bl bc) lost, zdv, .bool false, .int .i64 92]) (by simp [results, Try.results13, go_sem, c09, c19, c29, c39, c49, d09, d19, d29, d39, d49]) rfl ?_
      exact ⟨_, _, _, _, rfl, ⟨rfl, rfl, rfl, rfl⟩, by first | exact (fin10 (HB.out.xg.cell5 (W.heap.size + 1 + 1 + 1 + 1) _ _ _ _ _ (.inr (by omega))) _ _ _ _ _ _ _ _ _ _).trans (Gr.drew _ _) | exact (fin10' (HB.out.xg.cell5 (W.heap.size + 1 + 1 + 1 + 1) _ _ _ _ _ (.inr (by omega))) _ _ _ _ _ _ _ _ _ _).trans (Gr.drew _ _)⟩
set_option maxRecDepth 20000 in
set_option maxHeartbeats 400000 in
theorem do3_none (W : World) (nodes : Int) (sent : Nat) (wa : Option Addr) (wl wc : Nat) (ba : Option Addr) (bl bc : Nat) (lost : Nat) (f t i a m : Int) (oa : Option Addr) (ol oc : Nat) (hl : (wl : Int) ≤ 1024) (hi : i < 0 ∨ (wl : Int) ≤ i) :
    Calls Try.prog 13 #[rv nodes sent (.slice wa wl wc) (.slice ba bl bc) lost, ov 3 f t i a m (.slice oa ol oc)] W (EndD W (No (rv nodes sent (.slice wa wl wc) (.slice ba bl bc) lost) 92)) := by
  have HB := Lib.hid (b5_new W nodes sent (.slice wa wl wc) (.slice ba bl bc) lost 3 f t i a m (.slice oa ol oc))
  obtain ⟨w9, hw9⟩ : ∃ w, W5 W nodes sent (.slice wa wl wc) (.slice ba bl bc) lost 3 f t i a m (.slice oa ol oc) = w := ⟨_, rfl⟩
  rw [hw9] at HB
  by_cases h0 : i < 0
  ·
    obtain ⟨a09, a19, a29, a39, a49, fa09, fa19, fa29, fa39, fa49⟩ := five HB.out.xa
    obtain ⟨b09, b19, b29, b39, b49, b59, b69⟩ := seven HB.out.xb
    obtain ⟨c09, c19, c29, c39, c49, c59, c69, c79, c89, c99⟩ := five HB.out.xc
    obtain ⟨d09, d19, d29, d39, d49, d59, d69, d79, d89, d99⟩ := five HB.out.xd
    obtain ⟨e09, e19, e29, e39, e49, _⟩ := five HB.out.xe
    go_enter Try.func13, Try.ntmps13
    go_wp2_with fail
    go_region
    all_goals
      go_wp2
      refine bodyPost_ret (v := .tuple #[rv nodes sent (.slice wa wl wc) (.slice ba bl bc) lost, zdv, .bool false, .int .i64 92]) (by simp [results, Try.results13, go_sem, c09, c19, c29, c39, c49, d09, d19, d29, d39, d49]) rfl ?_
      exact ⟨_, _, _, _, rfl, ⟨rfl, rfl, rfl, rfl⟩, by first | exact (fin10 (HB.out.xg.cell5 (W.heap.size + 1 + 1 + 1 + 1) _ _ _ _ _ (.inr (by omega))) _ _ _ _ _ _ _ _ _ _).trans (Gr.drew _ _) | exact (fin10' (HB.out.xg.cell5 (W.heap.size + 1 + 1 + 1 + 1) _ _ _ _ _ (.inr (by omega))) _ _ _ _ _ _ _ _ _ _).trans (Gr.drew _ _)⟩
  · have h1 : (wl : Int) ≤ i := by omega
    clear hi
    obtain ⟨a09, a19, a29, a39, a49, fa09, fa19, fa29, fa39, fa49⟩ := five HB.out.xa
    obtain ⟨b09, b19, b29, b39, b49, b59, b69⟩ := seven HB.out.xb
    obtain ⟨c09, c19, c29, c39, c49, c59, c69, c79, c89, c99⟩ := five HB.out.xc
    obtain ⟨d09, d19, d29, d39, d49, d59, d69, d79, d89, d99⟩ := five HB.out.xd
    obtain ⟨e09, e19, e29, e39, e49, _⟩ := five HB.out.xe
    go_enter Try.func13, Try.ntmps13
    go_wp2_with fail
    go_region
    all_goals
      go_wp2
      refine bodyPost_ret (v := .tuple #[rv nodes sent (.slice wa wl wc) (.slice ba bl bc) lost, zdv, .bool false, .int .i64 92]) (by simp [results, Try.results13, go_sem, c09, c19, c29, c39, c49, d09, d19, d29, d39, d49]) rfl ?_
      exact ⟨_, _, _, _, rfl, ⟨rfl, rfl, rfl, rfl⟩, by first | exact (fin10 (HB.out.xg.cell5 (W.heap.size + 1 + 1 + 1 + 1) _ _ _ _ _ (.inr (by omega))) _ _ _ _ _ _ _ _ _ _).trans (Gr.drew _ _) | exact (fin10' (HB.out.xg.cell5 (W.heap.size + 1 + 1 + 1 + 1) _ _ _ _ _ (.inr (by omega))) _ _ _ _ _ _ _ _ _ _).trans (Gr.drew _ _)⟩
set_option maxRecDepth 20000 in
set_option maxHeartbeats 400000 in
theorem do4_none (W : World) (nodes : Int) (sent : Nat) (wa : Option Addr) (wl wc : Nat) (ba : Option Addr) (bl bc : Nat) (lost : Nat) (f t i a m : Int) (oa : Option Addr) (ol oc : Nat) (hl : (wl : Int) ≤ 1024) (hi : i < 0 ∨ (wl : Int) ≤ i) :
    Calls Try.prog 13 #[rv nodes sent (.slice wa wl wc) (.slice ba bl bc) lost, ov 4 f t i a m (.slice oa ol oc)] W (EndD W (No (rv nodes sent (.slice wa wl wc) (.slice ba bl bc) lost) 92)) := by
  have HB := Lib.hid (b5_new W nodes sent (.slice wa wl wc) (.slice ba bl bc) lost 4 f t i a m (.slice oa ol oc))
  obtain ⟨w9, hw9⟩ : ∃ w, W5 W nodes sent (.slice wa wl wc) (.slice ba bl bc) lost 4 f t i a m (.slice oa ol oc) = w := ⟨_, rfl⟩
  rw [hw9] at HB
  by_cases h0 : i < 0
  ·
    obtain ⟨a09, a19, a29, a39, a49, fa09, fa19, fa29, fa39, fa49⟩ := five HB.out.xa
    obtain ⟨b09, b19, b29, b39, b49, b59, b69⟩ := seven HB.out.xb
    obtain ⟨c09, c19, c29, c39, c49, c59, c69, c79, c89, c99⟩ := five HB.out.xc
    obtain ⟨d09, d19, d29, d39, d49, d59, d69, d79, d89, d99⟩ := five HB.out.xd
    obtain ⟨e09, e19, e29, e39, e49, _⟩ := five HB.out.xe
    go_enter Try.func13, Try.ntmps13
    go_wp2_with fail
    go_region
    all_goals
      go_wp2
      refine bodyPost_ret (v := .tuple #[rv nodes sent (.slice wa wl wc) (.slice ba bl bc) lost, zdv, .bool false, .int .i64 92]) (by simp [results, Try.results13, go_sem, c09, c19, c29, c39, c49, d09, d19, d29, d39, d49]) rfl ?_
      exact ⟨_, _, _, _, rfl, ⟨rfl, rfl, rfl, rfl⟩, by first | exact (fin10 (HB.out.xg.cell5 (W.heap.size + 1 + 1 + 1 + 1) _ _ _ _ _ (.inr (by omega))) _ _ _ _ _ _ _ _ _ _).trans (Gr.drew _ _) | exact (fin10' (HB.out.xg.cell5 (W.heap.size + 1 + 1 + 1 + 1) _ _ _ _ _ (.inr (by omega))) _ _ _ _ _ _ _ _ _ _).trans (Gr.drew _ _)⟩
  · have h1 : (wl : Int) ≤ i := by omega
    clear hi
    obtain ⟨a09, a19, a29, a39, a49, fa09, fa19, fa29, fa39, fa49⟩ := five HB.out.xa
    obtain ⟨b09, b19, b29, b39, b49, b59, b69⟩ := seven HB.out.xb
    obtain ⟨c09, c19, c29, c39, c49, c59, c69, c79, c89, c99⟩ := five HB.out.xc
    obtain ⟨d09, d19, d29, d39, d49, d59, d69, d79, d89, d99⟩ := five HB.out.xd
    obtain ⟨e09, e19, e29, e39, e49, _⟩ := five HB.out.xe
    go_enter Try.func13, Try.ntmps13
    go_wp2_with fail
    go_region
    all_goals
      go_wp2
      refine bodyPost_ret (v := .tuple #[rv nodes sent (.slice wa wl wc) (.slice ba bl bc) lost, zdv, .bool false, .int .i64 92]) (by simp [results, Try.results13, go_sem, c09, c19, c29, c39, c49, d09, d19, d29, d39, d49]) rfl ?_
      exact ⟨_, _, _, _, rfl, ⟨rfl, rfl, rfl, rfl⟩, by first | exact (fin10 (HB.out.xg.cell5 (W.heap.size + 1 + 1 + 1 + 1) _ _ _ _ _ (.inr (by omega))) _ _ _ _ _ _ _ _ _ _).trans (Gr.drew _ _) | exact (fin10' (HB.out.xg.cell5 (W.heap.size + 1 + 1 + 1 + 1) _ _ _ _ _ (.inr (by omega))) _ _ _ _ _ _ _ _ _ _).trans (Gr.drew _ _)⟩
end Go.Proofs.Ytjffhnpoipolfaa
