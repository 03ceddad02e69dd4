/-
  SerialRises' walk.
-/
import Derived.Test.YtanhigaingjalaaC
set_option linter.unusedSimpArgs false
set_option linter.unusedVariables false
namespace Go.Proofs.Ytanhigaingjalaa
open Go.RowKit Go.Maps
variable {S S' : Nat → Prop} {W W1 W' : World}

theorem wrapU (z : Int) : IntKind.u64.wrap z = z % 18446744073709551616 := by simp [IntKind.wrap, IntKind.bits, IntKind.signed]
theorem ahead_q (base x : Int) (w : World) : Calls Try.prog 11 #[.int .u32 base, .int .u32 x] w fun e w' => e = .returned (.int .u32 (ah base x)) ∧ w' = w :=
  (ahead_c base x w).mono fun _ _ h => ⟨h.1, h.2.symm⟩
theorem Sl.nn {v : Value} {l : List Int} (h : Sl W v l) (hn : l ≠ []) : ∃ b off cap, v = .slice (some ⟨b, off, none⟩) l.length cap ∧ ∀ i, i < l.length → W.cell? ⟨b, off + i, none⟩ = some (.int .u32 (l.getD i 0)) := by
  obtain ⟨a, cap, rfl, _, _, h3⟩ := h.sv
  obtain ⟨b, off, rfl, h4⟩ := h3 hn
  exact ⟨b, off, cap, rfl, h4⟩

set_option maxRecDepth 20000 in
set_option maxHeartbeats 1000000 in
theorem rises_none (hal : AliveOk) (W : World) (base : Int) (v : Value) (h : Sl W v []) :
    Calls Try.prog 7 #[.int .u32 base, v] W fun e W' => e = .returned (.bool true) ∧ G0 W W' := by
  have h0 := h
  obtain ⟨a, cap, rfl, -, -, -⟩ := h.sv
  clear h
  go_enter Try.func7, Try.ntmps7
  go_wp2_with fail
  refine (hal _).mono ?_
  rintro e w1 ⟨rfl, hg1⟩
  go_wp2_with fail
  refine (sort_none _ base _ (h0.g0 hg1)).mono ?_
  rintro e w2 ⟨v', rfl, o, hg2⟩
  obtain ⟨a2, c2, rfl⟩ := o.sv
  go_wp2_with fail
  refine wp_loop_rounds 1 ?_
  rw [rounds_succ]
  go_wp2_with fail
  go_ret
  exact ⟨by simp, hg1.trans hg2⟩

set_option maxRecDepth 20000 in
set_option maxHeartbeats 2000000 in
theorem rises_some (hal : AliveOk) (W : World) (base : Int) (v : Value) (l : List Int) (h : Sl W v l) (hn : l ≠ []) :
    Calls Try.prog 7 #[.int .u32 base, v] W fun e W' => e = .returned (.bool true) ∧ G0 W W' := by
  have h0 := Lib.hid h
  have hll := h.len
  have h11 := ahead_q base
  obtain ⟨b, off, cap, rfl, hc⟩ := h.nn hn
  clear hc h
  have hn' := Lib.hid hn
  clear hn
  go_enter Try.func7, Try.ntmps7
  go_wp2_with fail
  refine (hal _).mono ?_
  rintro e w1 ⟨rfl, hg1⟩
  go_wp2_with fail
  refine (sort_ok _ base _ l (h0.out.g0 hg1)).mono ?_
  rintro e w2 ⟨v', l', rfl, o, p, so, hg2⟩
  have hlen := p.length_eq
  obtain ⟨g, c2, rfl, -⟩ := o.form (fun e => hn'.out (by rw [e] at hlen; exact List.length_eq_zero_iff.1 hlen.symm))
  have gg := hg1.trans hg2
  have p' := Lib.hid p
  have so' := Lib.hid so
  have o' := Lib.hid o
  have hlI : (l'.length : Int) = (l.length : Int) := by omega
  have hlen' := Lib.hid hlen
  rw [hlen]
  clear p so o hlI hlen
  go_wp2_with fail
  go_loopw [6, 7, 8] (fun s q i wr => ∃ k : Nat, k ≤ l.length ∧ i = .int .i64 (k : Int) ∧ s = .int .u64 (df id l' l k) ∧ q = .int .u64 (df (fun x => x * x) l' l k) ∧ G0 w2 wr) (fun _ _ i _ => l.length - (intOf i).toNat)
  case atStart => exact ⟨0, Nat.zero_le _, rfl, by rw [df_zero], by rw [df_zero], Gr.refl _ _⟩
  case round =>
    obtain ⟨k, hk, rfl, rfl, rfl, hg⟩ := hrel
    by_cases hlt : k < l.length
    · have hltI : (k : Int) < (l.length : Int) := by omega
      have cx := ((o'.out.g0 hg).cell rfl (j := k) (by rw [hlen'.out]; exact hlt)).1
      have cy : wr.cell? ⟨b, off + k, none⟩ = some (.int .u32 (l.getD k 0)) := by
        obtain ⟨b2, off2, cap2, e2, hc2⟩ := (h0.out.g0 (gg.trans hg)).nn hn'.out
        cases e2
        exact hc2 k hlt
      have rx := getD_rg o'.out.rng k
      have ry := getD_rg h0.out.rng k
      have s1 := df_step id (l := l') (m := l) (k := k) (by rw [hlen'.out]; exact hlt) hlt
      have s2 := df_step (fun x => x * x) (l := l') (m := l) (k := k) (by rw [hlen'.out]; exact hlt) hlt
      simp only [id] at s1
      have s3 : ((df (fun x => x * x) l' l k + (l'.getD k 0 * l'.getD k 0) % 18446744073709551616) % 18446744073709551616 - (l.getD k 0 * l.getD k 0) % 18446744073709551616) % 18446744073709551616 = df (fun x => x * x) l' l (k + 1) := by
        rw [← s2]
        generalize l'.getD k 0 * l'.getD k 0 = X
        generalize l.getD k 0 * l.getD k 0 = Y
        omega
      clear s2
      have r1 := df_rg id l' l k
      have r2 := df_rg (fun x => x * x) l' l k
      have hprev : ∀ j, j + 1 = k → wr.cell? ⟨g, j, none⟩ = some (.int .u32 (l'.getD j 0)) ∧ decide (ah base (l'.getD k 0) < ah base (l'.getD j 0)) = false := fun j hj =>
        ⟨((o'.out.g0 hg).cell rfl (j := j) (by rw [hlen'.out]; omega)).1, decide_eq_false (by have := so_get so'.out (i := j) (j := k) (by omega) (by rw [hlen'.out]; exact hlt); omega)⟩
      obtain ⟨x, hx⟩ : ∃ x, l'.getD k 0 = x := ⟨_, rfl⟩
      obtain ⟨y, hy⟩ : ∃ y, l.getD k 0 = y := ⟨_, rfl⟩
      rw [hx] at cx rx s1 s3
      rw [hy] at cy ry s1 s3
      obtain ⟨n1, hn1⟩ : ∃ n1, df id l' l (k + 1) = n1 := ⟨_, rfl⟩
      obtain ⟨n2, hn2⟩ : ∃ n2, df (fun x => x * x) l' l (k + 1) = n2 := ⟨_, rfl⟩
      rw [hn1] at s1
      rw [hn2] at s3
      rw [hx] at hprev
      generalize df id l' l k = d1 at *
      generalize df (fun x => x * x) l' l k = d2 at *
      replace hx := Lib.hid hx
      replace hy := Lib.hid hy
      replace hn1 := Lib.hid hn1
      replace hn2 := Lib.hid hn2
      replace s1 := Lib.hid s1
      replace s3 := Lib.hid s3
      rcases Nat.eq_zero_or_pos k with h0k | h0k
      · have hk0 : decide (0 < k) = false := decide_eq_false (by omega)
        replace h0k := Lib.hid h0k
        clear hprev
        go_wp2_with fail
        go_quiet (fail)
        go_wp2_with fail
        exact ⟨⟨k + 1, by omega, by go_num, by rw [hn1.out, ← s1.out]; simp only [wrapU], by rw [hn2.out, ← s3.out]; simp only [wrapU], hg.trans (Gr.drewN _ _ _)⟩, by simp [intOf]; omega⟩
      · obtain ⟨j, hj⟩ : ∃ j, j + 1 = k := ⟨k - 1, by omega⟩
        obtain ⟨cp, hd⟩ := hprev j hj
        clear hprev
        generalize l'.getD j 0 = z at cp hd
        have hw1 : IntKind.i64.wrap ((k : Int) - 1) = (j : Int) := by simp [IntKind.wrap, IntKind.min, IntKind.max, IntKind.bits, IntKind.signed]; omega
        have hjI : (j : Int) < (l.length : Int) := by omega
        have hkI : (0 : Int) < (k : Int) := by omega
        replace hj := Lib.hid hj
        go_wp2_with fail
        go_quiet (first | (go_at_call 11; exact Calls.quiet_of_same (h11 _ _)))
        go_wp2_with fail
        exact ⟨⟨k + 1, by omega, by go_num, by rw [hn1.out, ← s1.out]; simp only [wrapU], by rw [hn2.out, ← s3.out]; simp only [wrapU], hg.trans (Gr.drewN _ _ _)⟩, by simp [intOf]; omega⟩
    · obtain rfl : k = l.length := by omega
      have z1 := df_all id p'.out l.length rfl
      have z2 := df_all (fun x => x * x) p'.out l.length rfl
      rw [z1, z2]
      go_wp2_with fail
      go_ret
      exact ⟨by simp, gg.trans hg⟩
theorem rises_w (hal : AliveOk) (W : World) (base : Int) (v : Value) (l : List Int) (h : Sl W v l) :
    Calls Try.prog 7 #[.int .u32 base, v] W fun e W' => e = .returned (.bool true) ∧ G0 W W' := by
  by_cases hn : l = []
  · subst hn; exact rises_none hal W base v h
  · exact rises_some hal W base v l h hn
end Go.Proofs.Ytanhigaingjalaa
