/-
  Deliver.
-/
import Derived.Test.YtjffhnpoipolfaaH
set_option linter.unusedVariables false
set_option linter.unusedSimpArgs false
namespace Go.Proofs.Ytjffhnpoipolfaa
open Go.RowKit Go.Maps Go.WideMaps
variable {S S' : Nat → Prop} {W W1 W' : World}
/-- What becomes of a net when one comes. -/
def Came (s s' : Ns) (i : Nat) (d : Dg) : Prop :=
  ((s.q (some d.t)).length < 64 ∧ s'.lost = s.lost ∧ s'.q = upd (upd s.q none ((s.q none).eraseIdx i)) (some d.t) (s.q (some d.t) ++ [d])) ∨ ((s.q (some d.t)).length = 64 ∧ s'.lost = s.lost + 1 ∧ s'.q = upd s.q none ((s.q none).eraseIdx i))
theorem come_all (W : World) (s : Ns) (h : Nt W s) (hz : s.z ≤ 1000000000) (d : Dg) (hb : W.heap[d.bk]? = some (.cells (bs d.by').toArray 5 (0, 0))) (hfresh : ∀ j, ∀ e ∈ s.q j, e.bk ≠ d.bk) (hd : DgOk s.sent d) :
    Calls Try.prog 36 #[pt s.p, d.val] W fun e w' => e = .returned (.tuple #[]) ∧ ∃ s', Nz (fun k => k = d.bk) W s w' s' ∧ s'.sent = s.sent ∧ s'.z = s.z + 1 ∧ (((s.q (some d.t)).length < 64 ∧ s'.lost = s.lost ∧ s'.q = upd s.q (some d.t) (s.q (some d.t) ++ [d])) ∨ ((s.q (some d.t)).length = 64 ∧ s'.lost = s.lost + 1 ∧ s'.q = s.q)) := by
  by_cases hl : (s.q (some d.t)).length < 64
  · refine (come_c W s h hz d hb hfresh hd (by omega)).mono ?_
    rintro e w' ⟨rfl, sv', hx⟩
    exact ⟨rfl, _, hx, rfl, rfl, .inl ⟨hl, rfl, rfl⟩⟩
  · have hl : (s.q (some d.t)).length = 64 := by have := h.bl d.t; omega
    obtain ⟨_, _, _, _, _, _, h7, h8⟩ := hd
    refine (come_full W s h hz d.f d.t d.n d.bv d.sp hl h7 h8).mono ?_
    rintro e w' ⟨rfl, hx⟩
    exact ⟨rfl, _, ⟨hx.nt, hx.p, hx.nodes, hx.z, hx.gr, fun k hk => (hx.fp k hk).imp id (fun e => e.imp id (fun e => e.elim))⟩, rfl, rfl, .inr ⟨hl, rfl, rfl⟩⟩
set_option maxHeartbeats 800000 in
theorem deliver_c (W : World) (s : Ns) (h : Nt W s) (hz : s.z ≤ 100000000) (i : Nat) (d : Dg) (hd : (s.q none)[i]? = some d) :
    Calls Try.prog 23 #[pt s.p, .int .i64 (i : Int)] W fun e w' => e = .returned (.int .i64 0) ∧ ∃ s', Nx W s w' s' ∧ s'.sent = s.sent ∧ Came s s' i d := by
  obtain ⟨g, cap, n, e, hn, hi, hl, hc1, hc2, hf, a0, a1, a2, a3, a4, hg, hgp⟩ := flight_at h hd
  have hr0 : ref (i : Int) (s.q none).length = 0 := by unfold ref; rw [if_neg]; omega
  have hrf := refuses_c W s h (i : Int)
  rw [hr0] at hrf
  have hrow := h.row none
  rw [e, hn] at hrow
  have hdm : d ∈ s.q none := List.mem_of_getElem? hd
  have hok := h.ok none d hdm
  obtain ⟨c0, c1, c2, c3, c4, f0, f1, f2, f3, f4⟩ := five h.blk
  rw [e] at c3
  have hX : ∀ W0, G0 W W0 → Calls Try.prog 35 #[.slice (some ⟨g, 0, none⟩) (n + 1) cap, .int .i64 (i : Int)] W0 fun e w' => e = .returned (.slice (some ⟨g, 0, none⟩) n cap) ∧ w'.ownsRow 0 39 5 (.slice (some ⟨g, 0, none⟩) n cap) n (flat ((s.q none).eraseIdx i)) ∧ Gr (fun k => k = g) W0 w' :=
    fun W0 g0 => without_c W0 g cap n (s.q none) i hn hi (by omega) (ownsRow_g0 hrow g0)
  have HX := Lib.hid hX
  have fin := Lib.hid (fun w0 (g0 : G0 W w0) w1 (hrow : w1.ownsRow 0 39 5 (.slice (some ⟨g, 0, none⟩) n cap) n (flat ((s.q none).eraseIdx i))) gr => cut_flight h (w0 := w0) (w1 := w1) hd e hn g0 hrow gr)
  have Hok := Lib.hid hok
  have Hz := Lib.hid hz
  have Hdm := Lib.hid hdm
  have Hh := Lib.hid h
  have hlt := lt_of_blk h.blk
  clear hX hz hrow hn hd hok hdm h
  go_enter Try.func23, Try.ntmps23
  go_wp2_with fail
  refine hrf.mono ?_
  rintro e w' ⟨rfl, rfl⟩
  go_wp2_with fail
  generalize hW0 : World.alloc _ _ = W0
  have g0 : G0 W W0 := by rw [← hW0]; exact Gr.alloc _ _ _
  have hb0 : W0.heap[W.heap.size]? = some (.cells #[.int .i64 d.f, .int .i64 d.t, .int .u64 (d.n : Int), d.bv, .bool d.sp] 39 (0, 0)) := by rw [← hW0]; exact heap_alloc_new _ _
  clear hW0
  refine (HX.out W0 g0).mono ?_
  rintro e w1 ⟨rfl, hrow1, gr1⟩
  have hsz0 := g0.size
  have hp1 : w1.heap[s.p]? = some (nblk s) := (gr1.block _ (by omega) (Ne.symm hgp)).trans ((g0.block _ hlt (fun e => e)).trans Hh.out.blk)
  obtain ⟨c01, c11, c21, c31, c41, f01, f11, f21, f31, f41⟩ := five hp1
  have hb1 : w1.heap[W.heap.size]? = some (.cells #[.int .i64 d.f, .int .i64 d.t, .int .u64 (d.n : Int), d.bv, .bool d.sp] 39 (0, 0)) := (gr1.block _ (lt_of_blk hb0) (by omega)).trans hb0
  obtain ⟨b0, b1, b2, b3, b4, _⟩ := five hb1
  obtain ⟨hx, hfr, hby⟩ := fin.out W0 g0 w1 hrow1 gr1
  have hcome := Lib.hid (come_all _ _ hx.nt (by show s.z ≤ 1000000000; have := Hz.out; omega) d hby hfr Hok.out)
  have Hx := Lib.hid hx
  have hq : upd s.q none ((s.q none).eraseIdx i) (some d.t) = s.q (some d.t) := upd_other _ _ (by simp)
  have hpW : s.p ≠ W.heap.size := by omega
  clear hx hrow1 gr1 hfr hby
  go_wp2_with fail
  refine hcome.out.mono ?_
  rintro e w3 ⟨rfl, s', hx3, h1, h2, h3⟩
  simp only [hq] at h3
  go_wp2
  go_ret
  refine ⟨rfl, s', Hx.out.trans hx3 (by rw [h2]; show s.z + 1 ≤ s.z + 4; omega) (fun _ e => e.elim) (fun k e => .inr (.inr (.inr ⟨none, d, Hdm.out, e.symm⟩))), h1, h3⟩
end Go.Proofs.Ytjffhnpoipolfaa
