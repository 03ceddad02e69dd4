/-
  Send, Drop, Deliver, Twin, Box, Lost.
-/
import Derived.Test.YtjffhnpoipolfaaF
set_option linter.unusedVariables false
set_option linter.unusedSimpArgs false
namespace Go.Proofs.Ytjffhnpoipolfaa
open Go.RowKit Go.Maps Go.WideMaps
variable {S S' : Nat → Prop} {W W1 W' : World}

theorem lost_c (W : World) (s : Ns) (h : Nt W s) : Calls Try.prog 15 #[pt s.p] W fun e w' => e = .returned (.int .i64 (s.lost : Int)) ∧ W = w' := by
  obtain ⟨c0, c1, c2, c3, c4, _⟩ := five h.blk
  go_enter Try.func15, Try.ntmps15
  go_wp2
  go_ret
  exact ⟨rfl, rfl⟩
theorem box_c (W : World) (s : Ns) (h : Nt W s) (k : Int) (hk : (Lit.int .i64 k).wf = true) : Calls Try.prog 18 #[pt s.p, .int .i64 k] W fun e w' => e = .returned (.int .i64 ((s.q (some k)).length : Int)) ∧ W = w' := by
  obtain ⟨c0, c1, c2, c3, c4, _⟩ := five h.blk
  obtain ⟨a, cap, e, _, _⟩ := ownsRow_sv (h.row (some k))
  have hlk := h.map.look k hk
  rw [e] at hlk
  have hl : ((s.q (some k)).length : Int) ≤ 64 := by have := h.bl k; omega
  generalize (s.q (some k)).length = n at *
  go_enter Try.func18, Try.ntmps18
  go_wp2
  go_ret
  exact ⟨rfl, rfl⟩

/-! ### Send -/
/-- May one send so? -/
def may (f t nodes : Int) : Bool := nod f nodes && nod t nodes && !(f == t)
set_option maxHeartbeats 800000 in
theorem send_node (W : World) (s : Ns) (h : Nt W s) (f t : Int) (bv : Value) (hm : may f t s.nodes = false) : Calls Try.prog 21 #[pt s.p, .int .i64 f, .int .i64 t, bv] W fun e w' => e = .returned (.int .i64 90) ∧ W = w' := by
  have hh := has_c W s h
  unfold may at hm
  rcases hf : nod f s.nodes with _ | _
  · go_enter Try.func21, Try.ntmps21
    go_wp2_with (first | (go_at_call 32; refine (hh _).mono ?_; rintro e w' ⟨rfl, rfl⟩))
    go_ret
    exact ⟨rfl, rfl⟩
  rcases ht : nod t s.nodes with _ | _
  · go_enter Try.func21, Try.ntmps21
    go_wp2_with (first | (go_at_call 32; refine (hh _).mono ?_; rintro e w' ⟨rfl, rfl⟩))
    go_ret
    exact ⟨rfl, rfl⟩
  have hft : (f == t) = true := by simpa [hf, ht] using hm
  go_enter Try.func21, Try.ntmps21
  go_wp2_with (first | (go_at_call 32; refine (hh _).mono ?_; rintro e w' ⟨rfl, rfl⟩))
  go_ret
  exact ⟨rfl, rfl⟩
set_option maxHeartbeats 800000 in
theorem send_long (W : World) (s : Ns) (h : Nt W s) (f t : Int) (a : Option Addr) (n cap : Nat) (hm : may f t s.nodes = true) (hn : (1212 : Int) < (n : Int)) (hn2 : (n : Int) ≤ 9223372036854775807) : Calls Try.prog 21 #[pt s.p, .int .i64 f, .int .i64 t, .slice a n cap] W fun e w' => e = .returned (.int .i64 91) ∧ W = w' := by
  have hh := has_c W s h
  unfold may at hm
  simp only [Bool.and_eq_true, Bool.not_eq_true'] at hm
  obtain ⟨⟨hf, ht⟩, hft⟩ := hm
  go_enter Try.func21, Try.ntmps21
  go_wp2_with (first | (go_at_call 32; refine (hh _).mono ?_; rintro e w' ⟨rfl, rfl⟩))
  go_ret
  exact ⟨rfl, rfl⟩
theorem sent_more {s : Ns} (h : Nt W s) : Nx W s (W.setCell ⟨s.p, 1, none⟩ (.int .u64 ((s.sent : Int) + 1))) { s with sent := s.sent + 1, z := s.z + 1 } := by
  have hb := heap_setCell_same W s.p 1 _ 60 (.int .u64 ((s.sent : Int) + 1)) h.blk
  have g2 : Gr (fun k => k = s.p) W (W.setCell ⟨s.p, 1, none⟩ (.int .u64 ((s.sent : Int) + 1))) := Gr.set _ _ _ rfl
  have hsm := h.sm
  refine ⟨{ blk := hb, map := ?_, row := ?_, byt := ?_, inj := h.inj, nod := h.nod, uni := h.uni, wl := h.wl, bl := h.bl, ok := fun i d hd => (h.ok i d hd).mono (Nat.le_succ _), bx := h.bx, nd := h.nd, sm := ⟨by show s.sent + 1 ≤ s.z + 1; omega, by show s.lost ≤ 64 * (s.z + 1); omega⟩ }, rfl, rfl, by show s.z + 1 ≤ s.z + 4; omega, ?_, fun k hk => .inl hk⟩
  · obtain ⟨es, c, e⟩ := h.map.blk
    exact (h.map.of_block (g2.block _ (lt_of_blk e) (fun e2 => by rw [e2, h.blk] at e; cases e))).mono (by show s.z ≤ s.z + 1; omega)
  · intro i
    refine ownsRow_of_block (h.row i) (fun k e => ?_)
    obtain ⟨cur, hc⟩ := h.rowb e
    exact g2.block _ (lt_of_blk hc) (fun e2 => by rw [e2, h.blk] at hc; simp at hc)
  · intro i d hd
    have hc := h.byt i d hd
    exact (g2.block _ (lt_of_blk hc) (fun e2 => by rw [e2, h.blk] at hc; simp at hc)).trans hc
  · exact g2.mono (fun i _ e => .inl e)
/-- What becomes of a net when one is sent. -/
def Put (s s' : Ns) (f t : Int) (n : Nat) (l : List Nat) (sp : Bool) : Prop :=
  ((s.q none).length < 1024 ∧ s'.lost = s.lost ∧ ∃ bk, s'.q = upd s.q none (s.q none ++ [⟨f, t, n, bk, l, sp⟩])) ∨ ((s.q none).length = 1024 ∧ s'.lost = s.lost + 1 ∧ s'.q = s.q)
theorem start_all (W : World) (s : Ns) (h : Nt W s) (hz : s.z ≤ 1000000000) (f t : Int) (n : Nat) (bv : Value) (l : List Nat) (sp : Bool) (hs : Sl W bv l) (hd : ∀ bk, DgOk s.sent ⟨f, t, n, bk, l, sp⟩) :
    Calls Try.prog 33 #[pt s.p, dv f t n bv sp] W fun e w' => e = .returned (.tuple #[]) ∧ ∃ s', Nx W s w' s' ∧ s'.sent = s.sent ∧ s'.z = s.z + 1 ∧ Put s s' f t n l sp := by
  by_cases hl : (s.q none).length < 1024
  · refine (start_c W s h hz f t n bv l sp hs hd (by omega)).mono ?_
    rintro e w' ⟨rfl, bk, sv', hx⟩
    exact ⟨rfl, _, hx, rfl, rfl, .inl ⟨hl, rfl, bk, rfl⟩⟩
  · have hl : (s.q none).length = 1024 := by have := h.wl; omega
    refine (start_full W s h hz f t n bv sp hl).mono ?_
    rintro e w' ⟨rfl, hx⟩
    exact ⟨rfl, _, hx, rfl, rfl, .inr ⟨hl, rfl, rfl⟩⟩
set_option maxHeartbeats 800000 in
theorem send_c (W : World) (s : Ns) (h : Nt W s) (hz : s.z ≤ 100000000) (f t : Int) (bv : Value) (l : List Nat) (hs : Sl W bv l) (hb : ∀ b off len cap, bv = .slice (some ⟨b, off, none⟩) len cap → ¬ Fp s b) (hm : may f t s.nodes = true) (hl : l.length ≤ 1212) :
    Calls Try.prog 21 #[pt s.p, .int .i64 f, .int .i64 t, bv] W fun e w' => e = .returned (.int .i64 0) ∧ ∃ s', Nx W s w' s' ∧ s'.sent = s.sent + 1 ∧ Put s s' f t (s.sent + 1) l false := by
  have hh := has_c W s h
  have hm0 := hm
  unfold may at hm
  simp only [Bool.and_eq_true, Bool.not_eq_true'] at hm
  obtain ⟨⟨hf, ht⟩, hft⟩ := hm
  obtain ⟨a, cap, e⟩ : ∃ a cap, bv = .slice a l.length cap := by
    rcases hs.at' with ⟨rfl, rfl⟩ | ⟨a, cap, rfl, h1, h2, h3⟩
    · exact ⟨_, _, rfl⟩
    · exact ⟨_, _, rfl⟩
  subst e
  obtain ⟨c0, c1, c2, c3, c4, f0, f1, f2, f3, f4⟩ := five h.blk
  have hlt := lt_of_blk h.blk
  have hX := sent_more h
  have hsm := h.sm
  have hok : ∀ bk, DgOk (s.sent + 1) ⟨f, t, s.sent + 1, bk, l, false⟩ := fun bk => by
    have := h.nd
    simp only [nod, Bool.and_eq_true, decide_eq_true_eq] at hf ht
    exact ⟨hl, hs.byte, by simp, Nat.le_refl _, hf.1, by simp only; omega, ht.1, by simp only; omega⟩
  have hst := Lib.hid (start_all (W.setCell ⟨s.p, 1, none⟩ (.int .u64 ((s.sent : Int) + 1))) _ hX.nt (by show s.z + 1 ≤ 1000000000; omega) f t (s.sent + 1) (.slice a l.length cap) l false (hs.gr hX.gr hb) hok)
  have hX' := Lib.hid hX
  have hl' : (l.length : Int) ≤ 1212 := by omega
  have hso : (s.sent : Int) ≤ 1000000000 := by omega
  clear hX hok hsm hz hl hs hb hm0
  go_enter Try.func21, Try.ntmps21
  go_wp2_with (first | (go_at_call 32; refine (hh _).mono ?_; rintro e w' ⟨rfl, rfl⟩))
  refine hst.out.mono ?_
  rintro e w2 ⟨rfl, s2, hx2, hs2, hz2, hp2⟩
  go_wp2
  go_ret
  exact ⟨rfl, s2, hX'.out.trans hx2 (by rw [hz2]; show s.z + 1 + 1 ≤ s.z + 4; omega) (fun i e => e.elim) (fun i e => e.elim), hs2, hp2⟩
end Go.Proofs.Ytjffhnpoipolfaa
