/-
  The reader's ids.
-/
import Derived.Test.YtdmichjhmfinpaaGreatDoorH
set_option linter.unusedVariables false
set_option linter.unusedSimpArgs false
namespace Go.Proofs.YtdmichjhmfinpaaGreatDoor
open Go.RowKit

def ids (s : ByteArray) (i : Nat) : Except Nat (Int × Int × Int × Nat) :=
  match dgs s i with
  | .error j => .error j
  | .ok j => if pk s j = 46 then (match dgs s (j + 1) with
    | .error k => .error k
    | .ok k => if pk s k = 46 then (match dgs s (k + 1) with
      | .error l => .error l
      | .ok l => .ok (fitV 2147483647 (dvx s i j), fitV 4294967295 (dvx s (j + 1) k), fitV 18446744073709551615 (dvx s (k + 1) l), l)) else .error k) else .error j
abbrev idV (a c d : Int) : Value := .agg #[.int .i64 a, .int .u32 c, .int .u64 d]
def EndD (W : World) (b : Nat) (s : ByteArray) (n : Nat) (e : Ending) (w' : World) : Except Nat (Int × Int × Int × Nat) → Prop
  | .ok (a, c, d, j) => e = .returned (idV a c d) ∧ St W b s w' j n
  | .error j => e = gives j 41 ∧ Gr (fun k => k = b) W w'
theorem fitV_b (M v : Int) (hM : 0 ≤ M) (hv : 0 ≤ v) : 0 ≤ fitV M v ∧ fitV M v ≤ M := by
  unfold fitV; split <;> omega

theorem three {W : World} {g : Nat} {x y z : Value} {t : TypeId} (h : W.heap[g]? = some (.cells #[x, y, z] t (0, 0))) :
    W.cell? ⟨g, 0, none⟩ = some x ∧ W.cell? ⟨g, 1, none⟩ = some y ∧ W.cell? ⟨g, 2, none⟩ = some z ∧ W.frozen? ⟨g, 0, none⟩ = false ∧ W.frozen? ⟨g, 1, none⟩ = false ∧ W.frozen? ⟨g, 2, none⟩ = false := by
  simp [World.cell?, World.frozen?, h]
theorem Gr.keep {S : Nat → Prop} {W W' : World} {g : Nat} {o : Obj} (k : Gr S W W') (h : W.heap[g]? = some o) (hs : ¬ S g) : W'.heap[g]? = some o :=
  (k.block g (Array.getElem?_eq_some_iff.1 h).1 hs).trans h

theorem Gr.setNew {S : Nat → Prop} {W W' : World} {p : Addr} {v : Value} (h : Gr S W W') (hp : W.heap.size ≤ p.block) : Gr S W (W'.setCell p v) :=
  ⟨h.os, h.tape, h.output, by rw [World.size_setCell]; exact h.size, fun k hk hn => (heap_setCell_other W' p k v (by omega)).trans (h.block k hk hn)⟩
set_option maxRecDepth 20000 in
set_option maxHeartbeats 1600000 in
theorem id_c (W : World) (b : Nat) (s : ByteArray) (i n : Nat) (h : Rd W b s i n) (hs : s.size ≤ 65536) (hi : i ≤ s.size) (hE : Er W) (hb4 : b ≠ 4) :
    Calls Tryz.prog 118 #[pt b] W fun e w' => EndD W b s n e w' (ids s i) := by
  have hb := h.lt
  obtain ⟨r, hr⟩ : ∃ r, r = ids s i := ⟨_, rfl⟩
  rw [← hr]
  have Hr := Lib.hid hr
  clear hr
  go_enter Tryz.func118, Tryz.ntmps118
  go_wp2_with fail
  generalize hW1 : W.alloc _ = W1
  have hg1 : Gr (fun k => k = b) W W1 := hW1 ▸ Gr.alloc _ _ _
  have hr1 : Rd W1 b s i n := hW1 ▸ h.gr (Gr.alloc _ _ (fun _ => False)) (fun e => e)
  have hc1 : W1.heap[W.heap.size]? = some (.cells #[.int .i64 0, .int .u32 0, .int .u64 0] 27 (0, 0)) := hW1 ▸ heap_alloc_new W _
  have hE1 : Er W1 := hE.gr hg1 (Ne.symm hb4)
  have hgb : ¬ (W.heap.size = b) := by omega
  have hgn : W.heap.size ≤ W.heap.size := Nat.le_refl _
  generalize hgg : W.heap.size = g at hc1 hgb ⊢
  rw [hgg] at hgn
  replace hgn : W.heap.size ≤ g := by omega
  clear hgg
  clear hW1 hb h
  have hd1 := digits_c W1 b s i n hr1 hs hi
  have hok1 := @dgs_ok s i
  have hdk1 := @dgs_dig s i
  cases hq1 : dgs s i with
  | error j =>
    rw [hq1] at hd1
    refine hd1.mono ?_
    rintro e w2 ⟨rfl, hg2⟩
    have e : r = .error j := by rw [Hr.out, ids, hq1]
    subst e
    exact ⟨rfl, rfl, hg1.trans hg2⟩
  | ok j =>
    obtain ⟨a1, a2, a3, _⟩ := hok1 hi hq1
    obtain ⟨b1, b2, b3⟩ := hdk1 hi hq1
    have hv1 := fitV_b 2147483647 (dvx s i j) (by decide) (dva_nonneg b3 _ (Nat.le_refl _))
    have hft := fun W hE => fit31_c W (s.extract i j) b1 b2 b3 hE
    change ∀ W, Er W → Calls Tryz.prog 134 #[.string (s.extract i j), .int .i64 31] W fun e w' => e = .returned (.int .u64 (fitV 2147483647 (dvx s i j))) ∧ Gr (fun _ => False) W w' at hft
    rw [hq1] at hd1
    clear hok1 hdk1 b1 b2 b3
    generalize hx1 : fitV 2147483647 (dvx s i j) = v1 at hv1 hft
    obtain ⟨l1, u1⟩ := hv1
    have Hx1 := Lib.hid hx1
    have Hq1 := Lib.hid hq1
    clear hx1 hq1
    refine hd1.mono ?_
    rintro e w2 ⟨rfl, hs2⟩
    have hE2 := hE1.gr hs2.2 (Ne.symm hb4)
    go_wp2_with fail
    refine (hft _ hE2).mono ?_
    rintro e w3 ⟨rfl, hg3⟩
    have hr3 := hs2.1.gr hg3 (fun e => e)
    have hg13 := (hg1.trans hs2.2).trans (hg3.mono (S' := fun k => k = b) (fun _ _ e => e.elim))
    have hc3 := hg3.keep (hs2.2.keep hc1 hgb) (fun e => e)
    have hE3 := hE2.gr hg3 (fun e => e)
    clear hd1 hft hs2 hg3 hc1 hE2 hr1 hE1
    go_wp2_with fail
    by_cases hp1 : pk s j = 46
    · have hlt := lt_of_pk (s := s) (i := j) (by rw [hp1]; decide)
      refine (point_ok w3 b s j n hr3 hs hp1).mono ?_
      rintro e w4 ⟨rfl, hs4⟩
      have Hp1 := Lib.hid hp1
      clear hp1
      have hE4 := hE3.gr hs4.2 (Ne.symm hb4)
      have hc4 := hs4.2.keep hc3 hgb
      have hg14 := hg13.trans hs4.2
      go_wp2_with fail
      have hd1 := digits_c w4 b s (j + 1) n hs4.1 hs (by omega)
      have hok1 := @dgs_ok s (j + 1)
      have hdk1 := @dgs_dig s (j + 1)
      cases hq1 : dgs s (j + 1) with
      | error k =>
        rw [hq1] at hd1
        refine hd1.mono ?_
        rintro e w5 ⟨rfl, hg5⟩
        have e : r = .error k := by rw [Hr.out, ids, Hq1.out]; simp only [Hp1.out, if_true, hq1]
        subst e
        exact ⟨rfl, rfl, hg14.trans hg5⟩
      | ok k =>
        obtain ⟨a4, a5, a6, _⟩ := hok1 (by omega) hq1
        obtain ⟨b1, b2, b3⟩ := hdk1 (by omega) hq1
        have hv1 := fitV_b 4294967295 (dvx s (j + 1) k) (by decide) (dva_nonneg b3 _ (Nat.le_refl _))
        have hft := fun W hE => fit32_c W (s.extract (j + 1) k) b1 b2 b3 hE
        change ∀ W, Er W → Calls Tryz.prog 134 #[.string (s.extract (j + 1) k), .int .i64 32] W fun e w' => e = .returned (.int .u64 (fitV 4294967295 (dvx s (j + 1) k))) ∧ Gr (fun _ => False) W w' at hft
        rw [hq1] at hd1
        clear hok1 hdk1 b1 b2 b3
        generalize hx2 : fitV 4294967295 (dvx s (j + 1) k) = v2 at hv1 hft
        obtain ⟨l2, u2⟩ := hv1
        have Hx2 := Lib.hid hx2
        have Hq2 := Lib.hid hq1
        clear hx2 hq1
        refine hd1.mono ?_
        rintro e w5 ⟨rfl, hs5⟩
        have hE5 := hE4.gr hs5.2 (Ne.symm hb4)
        go_wp2_with fail
        refine (hft _ hE5).mono ?_
        rintro e w6 ⟨rfl, hg6⟩
        have hr6 := hs5.1.gr hg6 (fun e => e)
        have hg16 := (hg14.trans hs5.2).trans (hg6.mono (S' := fun k => k = b) (fun _ _ e => e.elim))
        have hc6 := hg6.keep (hs5.2.keep hc4 hgb) (fun e => e)
        have hE6 := hE5.gr hg6 (fun e => e)
        clear hd1 hft hs5 hg6 hc4 hE5 hE4 hs4 hc3 hE3 hr3
        go_wp2_with fail
        by_cases hp1 : pk s k = 46
        · have hlt2 := lt_of_pk (s := s) (i := k) (by rw [hp1]; decide)
          refine (point_ok w6 b s k n hr6 hs hp1).mono ?_
          rintro e w7 ⟨rfl, hs7⟩
          have Hp2 := Lib.hid hp1
          clear hp1
          have hE7 := hE6.gr hs7.2 (Ne.symm hb4)
          have hc7 := hs7.2.keep hc6 hgb
          have hg17 := hg16.trans hs7.2
          go_wp2_with fail
          have hd1 := digits_c w7 b s (k + 1) n hs7.1 hs (by omega)
          have hok1 := @dgs_ok s (k + 1)
          have hdk1 := @dgs_dig s (k + 1)
          cases hq1 : dgs s (k + 1) with
          | error l =>
            rw [hq1] at hd1
            refine hd1.mono ?_
            rintro e w8 ⟨rfl, hg8⟩
            have e : r = .error l := by rw [Hr.out, ids, Hq1.out]; simp only [Hp1.out, if_true, Hq2.out, Hp2.out, hq1]
            subst e
            exact ⟨rfl, rfl, hg17.trans hg8⟩
          | ok l =>
            obtain ⟨a7, a8, a9, _⟩ := hok1 (by omega) hq1
            obtain ⟨b1, b2, b3⟩ := hdk1 (by omega) hq1
            have hv1 := fitV_b 18446744073709551615 (dvx s (k + 1) l) (by decide) (dva_nonneg b3 _ (Nat.le_refl _))
            have hft := fun W hE => fit64_c W (s.extract (k + 1) l) b1 b2 b3 hE
            change ∀ W, Er W → Calls Tryz.prog 134 #[.string (s.extract (k + 1) l), .int .i64 64] W fun e w' => e = .returned (.int .u64 (fitV 18446744073709551615 (dvx s (k + 1) l))) ∧ Gr (fun _ => False) W w' at hft
            rw [hq1] at hd1
            clear hok1 hdk1 b1 b2 b3
            have e : r = .ok (v1, v2, fitV 18446744073709551615 (dvx s (k + 1) l), l) := by rw [Hr.out, ids, Hq1.out]; simp only [Hp1.out, if_true, Hq2.out, Hp2.out, hq1, Hx1.out, Hx2.out]
            generalize fitV 18446744073709551615 (dvx s (k + 1) l) = v3 at hv1 hft e
            subst e
            obtain ⟨l3, u3⟩ := hv1
            clear hq1
            refine hd1.mono ?_
            rintro e w8 ⟨rfl, hs8⟩
            have hE8 := hE7.gr hs8.2 (Ne.symm hb4)
            go_wp2_with fail
            refine (hft _ hE8).mono ?_
            rintro e w9 ⟨rfl, hg9⟩
            have hr9 := hs8.1.gr hg9 (fun e => e)
            have hg19 := (hg17.trans hs8.2).trans (hg9.mono (S' := fun k => k = b) (fun _ _ e => e.elim))
            have hc9 := hg9.keep (hs8.2.keep hc7 hgb) (fun e => e)
            clear hd1 hft hs8 hg9 hc7 hE8 hE7 hs7 hc6 hE6 hr6 Hr
            obtain ⟨m0, m1, m2, o0, o1, o2⟩ := three hc9
            go_wp2_with fail
            refine bodyPost_ret (v := idV v1 v2 v3) (by simp [results, Tryz.results118, go_sem, m0, m1, m2]) rfl ⟨rfl, ?_, ((hg19.setNew hgn).setNew hgn).setNew hgn⟩
            exact ((hr9.gr (Gr.set (S := fun k => k = g) _ _ _ rfl) (fun e => hgb e.symm)).gr (Gr.set (S := fun k => k = g) _ _ _ rfl) (fun e => hgb e.symm)).gr (Gr.set (S := fun k => k = g) _ _ _ rfl) (fun e => hgb e.symm)
        · refine (point_no w6 b s k n hr6 (by omega) hp1).mono ?_
          rintro e w7 ⟨rfl, hg7⟩
          have e : r = .error k := by rw [Hr.out, ids, Hq1.out]; simp only [Hp1.out, if_true, Hq2.out, hp1, if_false]
          subst e
          exact ⟨rfl, rfl, hg16.trans hg7⟩
    · refine (point_no w3 b s j n hr3 (by omega) hp1).mono ?_
      rintro e w4 ⟨rfl, hg4⟩
      have e : r = .error j := by rw [Hr.out, ids, Hq1.out]; simp only [hp1, if_false]
      subst e
      exact ⟨rfl, rfl, hg13.trans hg4⟩
end Go.Proofs.YtdmichjhmfinpaaGreatDoor
