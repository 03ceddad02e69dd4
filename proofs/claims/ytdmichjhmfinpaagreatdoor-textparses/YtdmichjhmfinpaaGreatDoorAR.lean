/-
  The reference's Parse, for every text.
-/
import Derived.Test.YtdmichjhmfinpaaGreatDoorAQ
set_option linter.unusedVariables false
set_option linter.unusedSimpArgs false
namespace Go.Proofs.YtdmichjhmfinpaaGreatDoor
open Go.RowKit Go.Maps

theorem partR_c (s : ByteArray) (hs : s.size ≤ 65536) : ∀ r, r ≤ 24 → PartR s r
  | 0, _ => partR_0 s
  | r + 1, h => partR_s s hs r (partR_c s hs r (by omega)) (by omega)

set_option maxRecDepth 200000 in
set_option maxHeartbeats 1600000 in
theorem parse_r (s : ByteArray) (W : World) : Calls Tryz.prog 7 #[.string s] W fun e w' => EndP W e w' (parseV s) := by
  by_cases h1 : 65536 < s.size
  · have hI : 65536 < (s.size : Int) := by omega
    rw [show parseV s = .error (0, 40) by rw [parseV, if_pos h1]]
    clear h1
    go_enter Tryz.func7, Tryz.ntmps7
    go_wp2
    exact bodyPost_ret (v := .tuple #[lf 0 0 0 0 e0 0 0 0, .int .i64 0, .int .i64 40]) (by simp [results, Tryz.results7, go_sem]) rfl ⟨rfl, Gr.alloc _ _ _⟩
  have hs : s.size ≤ 65536 := by omega
  have hI : (s.size : Int) ≤ 65536 := by omega
  rw [show parseV s = prs s by rw [parseV, if_neg h1]]
  clear h1
  obtain ⟨q, hq⟩ : ∃ q, q = prs s := ⟨_, rfl⟩
  rw [← hq]
  have Hq := Lib.hid hq
  clear hq
  replace hs := Lib.hid hs
  have hp := Lib.hid (partR_c s hs.out 24 (by omega))
  go_enter Tryz.func7, Tryz.ntmps7
  go_wp2_with fail
  generalize hW1 : W.alloc _ = W1
  have hg1 : Gr (fun _ => False) W W1 := hW1 ▸ Gr.alloc _ _ _
  have hB1 : W1.heap[W.heap.size]? = some (.cells #[.int .i64 0, .int .i64 0, .complex .f64 0 0, .string e0, .int .i64 0, .int .u32 0, .int .u64 0, nl, nl] 31 (0, 0)) := hW1 ▸ heap_alloc_new W _
  clear hW1
  have hcall := hp.out W1 0 0 1 0 (by decide) (by omega) (by omega)
  have hsW := hg1.size
  cases hr : prt s 24 0 0 with
  | error e =>
    obtain ⟨j', c'⟩ := e
    rw [hr] at hcall
    have e : q = .error (j', c') := by rw [Hq.out, prs, hr]
    subst e
    clear hr
    refine hcall.mono ?_
    rintro e w2 ⟨i', n', rfl, hc, hg2⟩
    have hcn : (c' != 0) = true := by rw [bne, hc]; rfl
    have hB2 := hg2.keep hB1 (fun e => e)
    have l0 : W.heap.size < w2.heap.size := (Array.getElem?_eq_some_iff.1 hB2).1
    obtain ⟨⟨m0, m1, m2, m3, m4, m5, m6, m7, m8⟩, mf⟩ := nine hB2
    clear hcall hI
    go_wp2_with fail
    go_region
    all_goals
      go_wp2_with fail
      exact bodyPost_ret (v := .tuple #[lf 0 0 0 0 e0 0 0 0, .int .i64 (j' : Int), .int .i64 c']) (by simp [results, Tryz.results7, go_sem, m0, m1, m2, m3, m4, m5, m6, m7, m8, l0]) rfl ⟨rfl, ((((hg1.trans hg2).set9 (g := W.heap.size) (Nat.le_refl _) _ _ _ _ _ _ _ _ _).trans (Gr.alloc _ _ _)).trans (Gr.alloc _ _ _)).trans (Gr.drew _ _)⟩
  | ok v =>
    obtain ⟨T, j, m⟩ := v
    rw [hr] at hcall
    have He : Hid (q = if j < s.size then .error (j, 42) else .ok T) := by show q = _; rw [Hq.out, prs, hr]
    clear hr Hq
    refine hcall.mono ?_
    rintro e w2 ⟨v, rfl, hrep, hg2, hj, hm⟩
    clear hm hcall
    obtain ⟨tk, tn, tx, ty, ts, ta, tc, td, a1, n1, c1, a2, n2, c2, rfl⟩ := hrep.agg
    have hB2 := hg2.keep hB1 (fun e => e)
    have l0 : W.heap.size < w2.heap.size := (Array.getElem?_eq_some_iff.1 hB2).1
    have hW1l : W.heap.size < W1.heap.size := (Array.getElem?_eq_some_iff.1 hB1).1
    obtain ⟨⟨m0, m1, m2, m3, m4, m5, m6, m7, m8⟩, mf⟩ := nine hB2
    have hjI : (j : Int) ≤ 65536 := by have := hs.out; omega
    by_cases hlt : j < s.size
    · have e : q = .error (j, 42) := by rw [He.out, if_pos hlt]
      subst e
      have hI2 : (j : Int) < (s.size : Int) := by omega
      replace hlt := Lib.hid hlt
      clear He
      go_wp2_with fail
      generalize hW3 : World.alloc (World.alloc w2 _) _ = w3
      have hg3 : Gr (fun _ => False) w2 w3 := hW3 ▸ (Gr.alloc _ _ _).trans (Gr.alloc _ _ _)
      have hX3 : w3.heap[w2.heap.size]? = some (.cells #[.string s, .int .i64 (j : Int), .int .i64 (m : Int), .int .i64 0, .int .i64 0] 53 (0, 0)) := by
        subst hW3; simp only [al, World.size_alloc]; repeat (first | rw [if_pos trivial] | rw [if_pos (by omega)] | rw [if_neg (by omega)])
      clear hW3
      refine (fail_new s j m 0 (j : Int) 42 _).mono ?_
      rintro e w4 ⟨rfl, hg4⟩
      have hB4 := hg4.keep (hg3.keep hB2 (fun e => e)) (fun e => e)
      have hX4 := hg4.keep hX3 (fun e => e)
      have hw2 := hg2.size
      generalize w2.heap.size = xb at hX3 hX4 l0 hw2 ⊢
      have l1 : W.heap.size < w4.heap.size := (Array.getElem?_eq_some_iff.1 hB4).1
      have l2 : xb < w4.heap.size := (Array.getElem?_eq_some_iff.1 hX4).1
      have hxb : W.heap.size + 1 ≤ xb := l0
      have hg5 := (((hg1.trans hg2).trans hg3).trans hg4).set5 (g := xb) (by omega) (.string s) (.int .i64 (j : Int)) (.int .i64 (m : Int)) (.int .i64 42) (.int .i64 (j : Int))
      obtain ⟨⟨m0, m1, m2, m3, m4, m5, m6, m7, m8⟩, mf⟩ := nine hB4
      obtain ⟨⟨x0, x1, x2, x3, x4⟩, xf⟩ := five hX4
      clear hI hI2 hjI
      go_wp2_with fail
      go_region
      all_goals
        go_wp2_with fail
        exact bodyPost_ret (v := .tuple #[lf 0 0 0 0 e0 0 0 0, .int .i64 (j : Int), .int .i64 42]) (by simp [results, Tryz.results7, go_sem, m0, m1, m2, m3, m4, m5, m6, m7, m8, l0, l1, l2]) rfl ⟨rfl, (hg5.set9 (g := W.heap.size) (Nat.le_refl _) _ _ _ _ _ _ _ _ _).trans (Gr.drew _ _)⟩
    · have e : q = .ok T := by rw [He.out, if_neg hlt]
      subst e
      have hI2 : decide ((j : Int) < (s.size : Int)) = false := by simp; omega
      replace hlt := Lib.hid hlt
      clear He
      go_wp2_with fail
      have ht : ∀ v0 v1 v2 v3 v4 v5 v6 v7 v8 o o', Turn (fun k => W1.heap.size ≤ k) (fun k => W.heap.size ≤ k) w2 (((((((((((w2.setCell ⟨W.heap.size, 0, none⟩ v0).setCell ⟨W.heap.size, 1, none⟩ v1).setCell ⟨W.heap.size, 2, none⟩ v2).setCell ⟨W.heap.size, 3, none⟩ v3).setCell ⟨W.heap.size, 4, none⟩ v4).setCell ⟨W.heap.size, 5, none⟩ v5).setCell ⟨W.heap.size, 6, none⟩ v6).setCell ⟨W.heap.size, 7, none⟩ v7).setCell ⟨W.heap.size, 8, none⟩ v8).alloc o).alloc o') := fun v0 v1 v2 v3 v4 v5 v6 v7 v8 o o' z hz hlt =>
        ⟨by omega, (((Gr.own9 w2 W.heap.size v0 v1 v2 v3 v4 v5 v6 v7 v8).trans (Gr.alloc _ _ _)).trans (Gr.alloc _ _ _)).block z hlt (by omega)⟩
      exact bodyPost_ret (v := .tuple #[tv tk tn tx ty ts ta tc td (.slice a1 n1 c1) (.slice a2 n2 c2), .int .i64 0, .int .i64 0]) (by simp [results, Tryz.results7, go_sem, m0, m1, m2, m3, m4, m5, m6, m7, m8, l0]) rfl ⟨_, rfl, hrep.turn (ht _ _ _ _ _ _ _ _ _ _ _), (((hg1.trans hg2).set9 (g := W.heap.size) (Nat.le_refl _) _ _ _ _ _ _ _ _ _).trans (Gr.alloc _ _ _)).trans (Gr.alloc _ _ _)⟩
end Go.Proofs.YtdmichjhmfinpaaGreatDoor
