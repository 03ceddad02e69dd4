/-
  The statement of what texts are: its walk, over what its first line does.
-/
import Derived.Test.YtdmichjhmfinpaaGreatDoorAR
import Derived.Test.YtdmichjhmfinpaaGreatDoorAU
set_option linter.unusedVariables false
set_option linter.unusedSimpArgs false
namespace Go.Proofs.YtdmichjhmfinpaaGreatDoor
open Go.RowKit Go.Maps

/-- What the chapter's examples ask. -/
def AliveOk : Prop := ∀ W, Er W → Calls Tryz.prog 5 #[] W fun e w' => e = .returned (.bool true) ∧ Gr (fun _ => False) W w'

theorem rep_zero (A : Nat → Prop) (W : World) : Rep A W (.mk { k := 0 } [] []) (lf 0 0 0 0 e0 0 0 0) := ⟨_, _, [], rfl, .inl ⟨rfl, _, _, rfl⟩, .inl ⟨rfl, _, _, rfl⟩, rfl⟩

theorem els_err {s : ByteArray} {p : Nat → Nat → Except (Nat × Int) (Tm × Nat × Nat)} {en : Int} (hp : ∀ i n j c, p i n = .error (j, c) → 0 ≤ c ∧ c ≤ 100) : ∀ (k i n : Nat) (l : List Tm) (j : Nat) (c : Int), els s p en k i n l = .error (j, c) → 0 ≤ c ∧ c ≤ 100
  | 0, i, n, l, j, c, h => by rw [els] at h; cases h; decide
  | k + 1, i, n, l, j, c, h => by
    rw [els] at h
    cases hr : p i n with
    | error e =>
      obtain ⟨j', c'⟩ := e
      rw [hr] at h
      cases h
      exact hp i n j c hr
    | ok v =>
      obtain ⟨T, j', m'⟩ := v
      rw [hr] at h
      simp only at h
      split at h
      · cases h
      · split at h
        · split at h
          · cases h; decide
          · exact els_err hp k _ _ _ j c h
        · cases h; decide
theorem lst_err {s : ByteArray} {p : Nat → Nat → Except (Nat × Int) (Tm × Nat × Nat)} {en : Int} (hp : ∀ i n j c, p i n = .error (j, c) → 0 ≤ c ∧ c ≤ 100) (i n j : Nat) (c : Int) (h : lst s p en i n = .error (j, c)) : 0 ≤ c ∧ c ≤ 100 := by
  rw [lst] at h
  split at h
  · cases h
  · exact els_err hp _ _ _ _ j c h
theorem qtd_err {s : ByteArray} {i n j : Nat} {c : Int} (h : qtd s i n = .error (j, c)) : 0 ≤ c ∧ c ≤ 100 := by
  unfold qtd at h
  cases h1 : qts s (s.size + 1) (i + 1) [] with
  | error e => rw [h1] at h; cases h; decide
  | ok v =>
    obtain ⟨l', j'⟩ := v
    simp only [h1] at h
    split at h
    · cases h; decide
    · cases h
theorem prt_err (s : ByteArray) : ∀ (r i n j : Nat) (c : Int), prt s r i n = .error (j, c) → 0 ≤ c ∧ c ≤ 100
  | 0, i, n, j, c, h => by rw [prt] at h; cases h; decide
  | r + 1, i, n, j, c, h => by
    have ih := prt_err s r
    rw [prt] at h
    split at h
    · cases h; decide
    split at h
    · cases hr : lst s (prt s r) 125 i (n + 1) with
      | error e => obtain ⟨j', c'⟩ := e; rw [hr] at h; cases h; exact lst_err ih _ _ _ _ hr
      | ok v => rw [hr] at h; cases h
    split at h
    · cases hr : lst s (prt s r) 93 i (n + 1) with
      | error e => obtain ⟨j', c'⟩ := e; rw [hr] at h; cases h; exact lst_err ih _ _ _ _ hr
      | ok v => rw [hr] at h; cases h
    split at h
    · cases hr : qtd s i (n + 1) with
      | error e => obtain ⟨j', c'⟩ := e; rw [hr] at h; cases h; exact qtd_err hr
      | ok v => rw [hr] at h; cases h
    cases hr : sgl s i with
    | error e => rw [hr] at h; cases h; decide
    | ok v =>
      obtain ⟨t, ok, j'⟩ := v
      rw [hr] at h
      simp only at h
      split at h
      · cases h
      · cases h; decide
theorem parseV_err {s : ByteArray} {j : Nat} {c : Int} (h : parseV s = .error (j, c)) : 0 ≤ c ∧ c ≤ 100 := by
  rw [parseV] at h
  split at h
  · cases h; decide
  · rw [prs] at h
    cases hr : prt s 24 0 0 with
    | error e => obtain ⟨j', c'⟩ := e; rw [hr] at h; cases h; exact prt_err s _ _ _ _ _ hr
    | ok v =>
      obtain ⟨T, j', m'⟩ := v
      rw [hr] at h
      simp only at h
      split at h
      · cases h; decide
      · cases h

set_option maxRecDepth 200000 in
set_option maxHeartbeats 1600000 in
theorem parses_walk (hal : AliveOk) (s : ByteArray) (W : World) (hE : Er W) : Calls Tryz.prog 3 #[.string s] W fun e w' => e = .returned (.bool true) ∧ Gr (fun _ => False) W w' := by
  have ha := hal W hE
  have hp := fun W hE => parse_c s W hE
  have hq := fun W => parse_r s W
  cases hr : parseV s with
  | error e =>
    obtain ⟨j, c⟩ := e
    rw [hr] at hp hq
    obtain ⟨hc0, hc1⟩ := parseV_err hr
    clear hr
    go_enter Tryz.func3, Tryz.ntmps3
    go_wp2_with fail
    refine ha.mono ?_
    rintro e w1 ⟨rfl, hg1⟩
    go_wp2_with fail
    refine (hp _ (hE.gr hg1 (fun e => e))).mono ?_
    rintro e w2 ⟨rfl, hg2⟩
    go_wp2_with fail
    generalize hW3 : w2.alloc _ = w3
    have hg3 : Gr (fun _ => False) w2 w3 := hW3 ▸ Gr.alloc _ _ _
    have hB3 : w3.heap[w2.heap.size]? = some (.cells #[.int .i64 0, .int .i64 0, .complex .f64 0 0, .string e0, .int .i64 0, .int .u32 0, .int .u64 0, nl, nl] 31 (0, 0)) := hW3 ▸ heap_alloc_new w2 _
    clear hW3
    refine (hq w3).mono ?_
    rintro e w4 ⟨rfl, hg4⟩
    have hB4 := hg4.keep hB3 (fun e => e)
    have l0 : w2.heap.size < w4.heap.size := (Array.getElem?_eq_some_iff.1 hB4).1
    obtain ⟨⟨m0, m1, m2, m3, m4, m5, m6, m7, m8⟩, mf⟩ := nine hB4
    have hgA := hg3.trans hg4
    have hsm := fun o => same_c (A := fun k => w1.heap.size ≤ k) (A' := fun k => w3.heap.size ≤ k) (w4.alloc o) (.mk { k := 0 } [] []) _ _
      ((rep_zero (fun k => w1.heap.size ≤ k) w2).turn (A' := fun k => w1.heap.size ≤ k) (W' := (w4.alloc o)) (fun z hz hlt => ⟨hz, (hgA.trans (Gr.alloc w4 o _)).block z hlt (fun e => e)⟩))
      ((rep_zero (fun k => w3.heap.size ≤ k) w4).turn (A' := fun k => w3.heap.size ≤ k) (W' := (w4.alloc o)) (fun z hz hlt => ⟨hz, (Gr.alloc w4 o (fun _ => False)).block z hlt (fun e => e)⟩))
    clear hp hq ha
    go_wp2_with fail
    refine (hsm _).mono ?_
    rintro e w5 ⟨rfl, hg5⟩
    go_wp2_with fail
    go_ret
    exact ⟨by simp, (((hg1.trans hg2).trans hgA).trans (Gr.alloc _ _ _)).trans hg5⟩
  | ok T =>
    rw [hr] at hp hq
    go_enter Tryz.func3, Tryz.ntmps3
    go_wp2_with fail
    refine ha.mono ?_
    rintro e w1 ⟨rfl, hg1⟩
    go_wp2_with fail
    refine (hp _ (hE.gr hg1 (fun e => e))).mono ?_
    rintro e w2 ⟨v, rfl, hrep, hg2⟩
    obtain ⟨tk, tn, tx, ty, ts, ta, tc, td, a1, n1, c1, a2, n2, c2, rfl⟩ := hrep.agg
    go_wp2_with fail
    generalize hW3 : w2.alloc _ = w3
    have hg3 : Gr (fun _ => False) w2 w3 := hW3 ▸ Gr.alloc _ _ _
    have hB3 : w3.heap[w2.heap.size]? = some (.cells #[.int .i64 tk, .int .i64 tn, .complex .f64 tx ty, .string ts, .int .i64 ta, .int .u32 tc, .int .u64 td, .slice a1 n1 c1, .slice a2 n2 c2] 31 (0, 0)) := hW3 ▸ heap_alloc_new w2 _
    clear hW3
    refine (hq w3).mono ?_
    rintro e w4 ⟨v, rfl, hrep4, hg4⟩
    obtain ⟨sk, sn, sx, sy, ss, sa, sc, sd, b1, k1, d1, b2, k2, d2, rfl⟩ := hrep4.agg
    have hB4 := hg4.keep hB3 (fun e => e)
    have l0 : w2.heap.size < w4.heap.size := (Array.getElem?_eq_some_iff.1 hB4).1
    obtain ⟨⟨m0, m1, m2, m3, m4, m5, m6, m7, m8⟩, mf⟩ := nine hB4
    have hgA := hg3.trans hg4
    have hsm := fun o => same_c (A := fun k => w1.heap.size ≤ k) (A' := fun k => w3.heap.size ≤ k) (w4.alloc o) T _ _
      ((hrep).turn (A' := fun k => w1.heap.size ≤ k) (W' := (w4.alloc o)) (fun z hz hlt => ⟨hz, (hgA.trans (Gr.alloc w4 o _)).block z hlt (fun e => e)⟩))
      ((hrep4).turn (A' := fun k => w3.heap.size ≤ k) (W' := (w4.alloc o)) (fun z hz hlt => ⟨hz, (Gr.alloc w4 o (fun _ => False)).block z hlt (fun e => e)⟩))
    clear hp hq ha
    go_wp2_with fail
    refine (hsm _).mono ?_
    rintro e w5 ⟨rfl, hg5⟩
    go_wp2_with fail
    go_ret
    exact ⟨by simp, (((hg1.trans hg2).trans hgA).trans (Gr.alloc _ _ _)).trans hg5⟩
end Go.Proofs.YtdmichjhmfinpaaGreatDoor
/-
  The chapter's examples: two texts.
-/
namespace Go.Proofs.YtdmichjhmfinpaaGreatDoor
open Go.RowKit Go.Maps

def isTwo : Except (Nat × Int) Tm → Bool
  | .ok (.mk _ _ l) => l.length == 2
  | .error _ => false
def isBad (j : Nat) (c : Int) : Except (Nat × Int) Tm → Bool
  | .ok _ => false
  | .error (i, d) => i == j && d == c
abbrev txA : ByteArray := ⟨#[123, 49, 44, 91, 97, 93, 125]⟩
abbrev txB : ByteArray := ⟨#[91, 49, 44, 50]⟩
theorem two_A : isTwo (parseV txA) = true := by decide +kernel
theorem bad_B : isBad 4 41 (parseV txB) = true := by decide +kernel
end Go.Proofs.YtdmichjhmfinpaaGreatDoor
