/-
  The law EtfOne, over Decode's contract and the chapter's examples.
-/
import Derived.Test.YtmohehfkbhllpaaMA
import Derived.Test.YtmohehfkbhllpaaLG
import Derived.Test.YtmohehfkbhllpaaAU
set_option linter.unusedVariables false
set_option linter.unusedSimpArgs false
namespace Go.Proofs.Ytmohehfkbhllpaa
open Go.RowKit Go.Maps
variable {S S' Z G : Nat → Prop} {W W1 W' : World}

/-- How Decode ends. -/
def EndV (W : World) (e : Ending) (w' : World) : Except Int Tm → Prop
  | .ok T => ∃ v, e = .returned (.tuple #[v, .int .i64 0]) ∧ Rep (fun k => W.heap.size ≤ k) w' T v ∧ Gr (fun _ => False) W w'
  | .error c => e = .returned (.tuple #[lf 0 0 0 0 e0 0 0 0, .int .i64 c]) ∧ Gr (fun _ => False) W w'
def DecOk : Prop := ∀ (Z : Nat → Prop) (W : World) (v : Value) (m : List Int), Sq Z W v m → (∀ k, Z k → k < W.heap.size) → Calls Try.prog 5 #[v] W fun e w' => EndV W e w' (decV m)
def AliveOk : Prop := ∀ W, Calls Try.prog 4 #[] W fun e w' => e = .returned (.bool true) ∧ Gr (fun _ => False) W w'
theorem rep_zero (A : Nat → Prop) (W : World) : Rep A W (.mk { k := 0 } [] []) (lf 0 0 0 0 e0 0 0 0) := ⟨_, _, [], rfl, .inl ⟨rfl, _, _, rfl⟩, .inl ⟨rfl, _, _, rfl⟩, rfl⟩

/-! ### Errors are not 0 -/
theorem nmb_er : ∀ (f k a : Nat) (m : List Int) (c : Int), nmb f k a m = .error c → 1 ≤ c
  | 0, k, a, m, c, h => by simp [nmb] at h
  | f + 1, k, a, [], c, h => by simp [nmb] at h; omega
  | f + 1, k, a, x :: m, c, h => by
    rw [nmb] at h
    split at h
    · cases h; decide
    · split at h
      · cases h
      · exact nmb_er f _ _ m c h
theorem nwq_er {m : List Int} {l : List ByteArray} {c : Int} (h : nwq m l = .error c) : 1 ≤ c := by
  unfold nwq at h
  split at h
  · cases h; decide
  · split at h
    · cases h; decide
    · split at h
      · cases h; decide
      · split at h
        · cases h; decide
        · split at h
          · cases h
          · cases h; decide
theorem nmq_er {m : List Int} {l : List ByteArray} {c : Int} (h : nmq m l = .error c) : 1 ≤ c := by
  unfold nmq at h
  split at h
  · rename_i e hr; cases h; exact nmb_er _ _ _ _ _ hr
  · split at h
    · cases h; decide
    · split at h
      · split at h
        · rename_i e hr; cases h; exact nwq_er hr
        · cases h
      · cases h
theorem idq_er {m : List Int} {c : Int} (h : idq m = .error c) : 1 ≤ c := by
  unfold idq at h
  split at h
  · cases h; decide
  · split at h
    · rename_i e hr; cases h; exact nmb_er _ _ _ _ _ hr
    · split at h
      · cases h; decide
      · split at h
        · rename_i e hr; cases h; exact nmb_er _ _ _ _ _ hr
        · cases h
theorem rwq_er {m : List Int} {n : Nat} {c : Int} (h : rwq m n = .error c) : 1 ≤ c := by
  unfold rwq at h
  split at h
  · rename_i e hr; cases h; exact nmb_er _ _ _ _ _ hr
  · split at h
    · cases h; decide
    · split at h
      · cases h; decide
      · cases h
theorem elq_er {p : List Int → Nat → List ByteArray → Except Int (Tm × List Int × Nat × List ByteArray)} (hp : ∀ m n l c, p m n l = .error c → 1 ≤ c) : ∀ (u : Nat) (m : List Int) (n : Nat) (l : List ByteArray) (acc : List Tm) (c : Int), elq p u m n l acc = .error c → 1 ≤ c
  | 0, m, n, l, acc, c, h => by simp [elq] at h
  | u + 1, m, n, l, acc, c, h => by
    rw [elq] at h
    split at h
    · rename_i e hr; cases h; exact hp _ _ _ _ hr
    · exact elq_er hp u _ _ _ _ c h
theorem knq_er {p : List Int → Nat → List ByteArray → Except Int (Tm × List Int × Nat × List ByteArray)} (hp : ∀ m n l c, p m n l = .error c → 1 ≤ c) (k : Int) (m : List Int) (n : Nat) (l : List ByteArray) (c : Int) (h : knq p k m n l = .error c) : 1 ≤ c := by
  unfold knq at h
  split at h
  · split at h
    · rename_i e hr; cases h; exact nmb_er _ _ _ _ _ hr
    · split at h
      · cases h
      · cases h; decide
  · split at h
    · split at h
      · cases h; decide
      · split at h
        · cases h
        · cases h; decide
    · split at h
      · split at h
        · rename_i e hr; cases h; exact nmq_er hr
        · cases h
      · split at h
        · split at h
          · rename_i e hr; cases h; exact idq_er hr
          · split at h
            · cases h
            · cases h; decide
        · split at h
          · split at h
            · rename_i e hr; cases h; exact nmb_er _ _ _ _ _ hr
            · split at h
              · cases h; decide
              · split at h
                · rename_i e hr; cases h; exact elq_er hp _ _ _ _ _ _ hr
                · cases h
          · split at h
            · split at h
              · rename_i e hr; cases h; exact rwq_er hr
              · cases h
            · cases h; decide
theorem ptq_er (r : Nat) : ∀ (m : List Int) (n : Nat) (l : List ByteArray) (c : Int), ptq r m n l = .error c → 1 ≤ c := by
  induction r with
  | zero => intro m n l c h; simp [ptq] at h; omega
  | succ r ih =>
    intro m n l c h
    simp only [ptq] at h
    split at h
    · cases h; decide
    · split at h
      · cases h; decide
      · exact knq_er ih _ _ _ _ _ h
theorem decV_er {b : List Int} {c : Int} (h : decV b = .error c) : 1 ≤ c := by
  unfold decV at h
  split at h
  · cases h; decide
  · split at h
    · cases h; decide
    · split at h
      · split at h
        · rename_i e hr; cases h; exact ptq_er _ _ _ _ _ hr
        · unfold fin7 at h
          split at h
          · cases h
          · cases h; decide
      · cases h; decide

set_option maxRecDepth 100000 in
set_option maxHeartbeats 1600000 in
theorem one_walk (hal : AliveOk) (hdec : DecOk) (W : World) (v : Value) (m : List Int) (hq : Sq Z W v m) (hZ : ∀ k, Z k → k < W.heap.size) : Calls Try.prog 3 #[v] W fun e w' => e = .returned (.bool true) ∧ Gr (fun _ => False) W w' := by
  have ha := hal W
  have hp := fun w (g : Gr (fun _ => False) W w) => hdec Z w v m (hq.gr g (fun _ _ e => e)) (fun k hk => Nat.lt_of_lt_of_le (hZ k hk) g.size)
  have hby : Byt m := hq.byte
  have hcvb := fun w (g : Gr (fun _ => False) W w) => conv_sb (hq.gr g (fun _ _ e => e)).sbS
  cases hr : decV m with
  | error c =>
    rw [hr] at hp
    have hc := decV_er hr
    have hc0 : ¬ c = 0 := by omega
    obtain ⟨qa, qc, rfl, -⟩ := hq
    clear hr hc hcvb
    go_enter Try.func3, Try.ntmps3
    go_wp2_with fail
    refine ha.mono ?_
    rintro e w1 ⟨rfl, hg1⟩
    go_wp2_with fail
    refine (hp _ hg1).mono ?_
    rintro e w2 ⟨rfl, hg2⟩
    have hsm := fun o => same_c (A := fun k => w1.heap.size ≤ k) (A' := fun k => w1.heap.size ≤ k) (w2.alloc o) (.mk { k := 0 } [] []) _ _ (rep_zero (fun k => w1.heap.size ≤ k) (w2.alloc o)) (rep_zero (fun k => w1.heap.size ≤ k) (w2.alloc o))
    clear hp ha
    go_wp2_with fail
    refine (hsm _).mono ?_
    rintro e w5 ⟨rfl, hg5⟩
    go_wp2_with fail
    go_ret
    exact ⟨by simp, ((hg1.trans hg2).trans (Gr.alloc _ _ _)).trans hg5⟩
  | ok T =>
    rw [hr] at hp
    obtain ⟨hlen, x, n, ns, hmx, hwp, hok, hgo, hh⟩ := decV_good hby hr
    obtain ⟨qa, qc, rfl, -⟩ := hq
    clear hr
    replace hmx := Lib.hid hmx
    replace hok := Lib.hid hok
    replace hgo := Lib.hid hgo
    replace hwp := Lib.hid hwp
    go_enter Try.func3, Try.ntmps3
    go_wp2_with fail
    refine ha.mono ?_
    rintro e w1 ⟨rfl, hg1⟩
    go_wp2_with fail
    refine (hp _ hg1).mono ?_
    rintro e w2 ⟨v, rfl, hrep, hg2⟩
    have hrepg := fun w (g : Gr (fun _ => False) w2 w) => hrep.turn (A' := fun k => w1.heap.size ≤ k ∧ k < w2.heap.size) (W' := w) (fun k hk hlt => ⟨⟨hk, hlt⟩, g.block k hlt (fun e => e)⟩)
    have hen := fun w v (g : Gr (fun _ => False) w2 w) (h : Rep (fun k => w1.heap.size ≤ k ∧ k < w2.heap.size) w T v) => encode_k _ w T v n x ns h (fun k hk => by have := g.size; omega) (by omega) hok.out hgo.out hwp.out (by have := hlen; rw [hmx.out] at this; simpa using this)
    have hck := fun w v (g : Gr (fun _ => False) w2 w) (h : Rep (fun k => w1.heap.size ≤ k ∧ k < w2.heap.size) w T v) => check_t _ w T v n h (fun k hk => by have := g.size; omega) (by omega) hok.out hgo.out
    obtain ⟨tk, tn, tx, ty, ts, ta, tc, td, a1, n1, c1, a2, n2, c2, rfl⟩ := hrep.agg
    rw [← hmx.out] at hen
    replace hrepg := Lib.hid hrepg
    replace hen := Lib.hid hen
    replace hck := Lib.hid hck
    replace hcvb := Lib.hid hcvb
    clear hp ha hok hgo hwp hlen hmx hh hrep hby
    go_wp2_with fail
    generalize hW3 : w2.alloc _ = w3
    have hg3 : Gr (fun _ => False) w2 w3 := hW3 ▸ Gr.alloc _ _ _
    have hB3 : w3.heap[w2.heap.size]? = some (.cells #[.int .i64 tk, .int .i64 tn, .complex .f64 tx ty, .string ts, .int .i64 ta, .int .u32 tc, .int .u64 td, .slice a1 n1 c1, .slice a2 n2 c2] 31 (0, 0)) := hW3 ▸ heap_alloc_new w2 _
    clear hW3
    refine (hen.out w3 _ hg3 (hrepg.out w3 hg3)).mono ?_
    rintro e w4 ⟨bv4, rfl, ho4, hg4⟩
    have hB4 := hg4.keep hB3 (fun e => e)
    obtain ⟨⟨m0, m1, m2, m3, m4, m5, m6, m7, m8⟩, mf⟩ := nine hB4
    have hg24 := hg3.trans hg4
    have l4 : w2.heap.size < w4.heap.size := (Array.getElem?_eq_some_iff.1 hB4).1
    go_wp2_with fail
    refine (hck.out w4 _ hg24 (hrepg.out w4 hg24)).mono ?_
    rintro e w5 ⟨rfl, hg5⟩
    have hG5 := ((hg1.trans hg2).trans hg24).trans hg5
    have cv1 := hcvb.out w5 hG5
    have cv2 := conv_sb (ho4.g0 hg5).sb
    obtain ⟨za, zc, rfl⟩ := ho4.sv
    go_wp2_with fail
    go_ret
    exact ⟨by simp, hG5⟩
end Go.Proofs.Ytmohehfkbhllpaa
