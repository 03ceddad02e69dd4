/-
  A table takes 4096 names, and not one more, but those that are there still.
-/
import Derived.Test.YtipdniiamaaolaaJ
namespace Go.Proofs.Ytipdniiamaaolaa
open Go.RowKit Go.Maps Go.WideMaps Go.Shelf

def Lk (k : Nat) : List ByteArray := (List.range k).map dg
theorem Lk_succ (k : Nat) : Lk (k + 1) = Lk k ++ [dg k] := by simp [Lk, List.range_succ]
theorem Lk_len (k : Nat) : (Lk k).length = k := by simp [Lk]
theorem Lk_fnd (i : Nat) (hi : i < 4096) : ∀ k, k ≤ 4096 → fnd (Lk k) (dg i) 0 = if i < k then some i else none
  | 0, _ => rfl
  | k + 1, hk => by
    rw [Lk_succ, fnd_snoc, Lk_fnd i hi k (by omega), Lk_len]
    by_cases h : i < k
    · simp [h, Nat.lt_succ_of_lt h]
    · by_cases e : i = k
      · subst e; simp
      · have : dg k ≠ dg i := fun h2 => e (dg_inj hi (by omega) h2.symm)
        simp [h, this, show ¬ i < k + 1 by omega]
theorem Lk_put (k : Nat) (hk : k < 4096) : putN (Lk k) (dg k) = k ∧ putE (Lk k) (dg k) = 0 ∧ putL (Lk k) (dg k) = Lk (k + 1) := by
  have h1 := Lk_fnd k hk k (by omega)
  simp at h1
  simp [putN, putE, putL, dg_name, h1, Lk_len, Lk_succ, show ¬ 4096 ≤ k by omega]
theorem Lk_again (r : Nat) (hr : r < 4096) : putN (Lk 4096) (dg r) = r ∧ putE (Lk 4096) (dg r) = 0 ∧ putL (Lk 4096) (dg r) = Lk 4096 := by
  have h1 := Lk_fnd r hr 4096 (by omega)
  simp [hr] at h1
  simp [putN, putE, putL, dg_name, h1]
theorem Lk_full (s : ByteArray) : putL (Lk 4096) s = Lk 4096 := by
  unfold putL
  rw [Lk_len]
  split
  · split <;> simp
  · rfl

theorem digits_i (z : Int) (h0 : 0 ≤ z) (h1 : z < 4096) (W : World) : Calls Try.prog 21 #[.int .i64 z] W fun e W' => e = .returned (.string (dg z.toNat)) ∧ Below W.heap.size W W' := by
  have h := digits_c z.toNat (by omega) W
  rw [Int.toNat_of_nonneg h0] at h
  exact h
theorem Lk_z (z : Int) (h0 : 0 ≤ z) (h1 : z < 4096) : putN (Lk 4096) (dg z.toNat) = z ∧ putE (Lk 4096) (dg z.toNat) = 0 ∧ putL (Lk 4096) (dg z.toNat) = Lk 4096 := by
  have h := Lk_again z.toNat (by omega)
  rw [Int.toNat_of_nonneg h0] at h
  exact h
theorem again_c {w0 X : World} {b : Nat} (z : Int) (h0 : 0 ≤ z) (h1 : z < 4096) (h : Own w0 X b (Lk 4096)) :
    Calls Try.prog 14 #[pt b, .string (dg z.toNat)] X fun e X' => e = .returned (.tuple #[.int .i64 z, .int .i64 0]) ∧ Own w0 X' b (Lk 4096) := by
  have h2 := put_o (dg z.toNat) h
  obtain ⟨q1, q2, q3⟩ := Lk_z z h0 h1
  rw [q1, q2, q3] at h2
  exact h2
theorem len_full {w0 X : World} {b : Nat} (h : Own w0 X b (Lk 4096)) : Calls Try.prog 20 #[pt b] X fun e X' => e = .returned (.int .i64 4096) ∧ X = X' := by
  have h2 := len_o h
  rw [Lk_len] at h2
  exact h2
/-- What a full table answers of a text. -/
theorem full_cases {w0 X : World} {b : Nat} (s : ByteArray) (h : Own w0 X b (Lk 4096)) :
    (∃ j : Nat, fnd (Lk 4096) s 0 = some j ∧ putN (Lk 4096) s = j ∧ putE (Lk 4096) s = 0) ∨
    (fnd (Lk 4096) s 0 = none ∧ isName s = true ∧ putN (Lk 4096) s = 0 ∧ putE (Lk 4096) s = 31) ∨
    (fnd (Lk 4096) s 0 = none ∧ isName s = false ∧ putN (Lk 4096) s = 0 ∧ putE (Lk 4096) s = 30) := by
  obtain ⟨m, sv, ht, _, _⟩ := h
  rcases hf : fnd (Lk 4096) s 0 with _ | j
  · right
    cases hn : isName s
    · right; simp [putN, putE, hn]
    · left; simp [putN, putE, hn, hf, Lk_len]
  · left
    have hm : s ∈ Lk 4096 := by
      obtain ⟨_, _, h3⟩ := fnd_some _ _ _ _ hf
      exact List.mem_of_getElem? h3
    have hn := ht.good.name s hm
    exact ⟨j, rfl, by simp [putN, hn, hf], by simp [putE, hn, hf]⟩

theorem neg_rem {n : Int} (h : n < 0) : 0 ≤ -((n + 1).tmod 4096) ∧ -((n + 1).tmod 4096) < 4096 := by
  rw [← Int.neg_tmod, Int.tmod_eq_emod_of_nonneg (by omega)]
  omega

set_option maxRecDepth 100000 in
set_option maxHeartbeats 8000000 in
theorem full_c (s : ByteArray) (hs : s.size ≤ maxLen) (n : Int) (hn1 : -9223372036854775808 ≤ n) (hn2 : n ≤ 9223372036854775807) (W : World) :
    Calls Try.prog 6 #[.string s, .int .i64 n] W fun e W' => e = .returned (.bool true) ∧ Gr (fun _ => False) W W' := by
  go_enter Try.func6, Try.ntmps6
  go_wp2_with (first
    | (go_at_call 9; refine (alive_c _).mono ?_; rintro e w1 ⟨rfl, hg⟩)
    | (go_at_call 12; refine (new_o hg).mono ?_; rintro e w2 ⟨rfl, ho⟩))
  go_loopw [6] (fun i wr => ∃ k : Nat, k ≤ 4096 ∧ i = .int .i64 k ∧ Own W wr w1.heap.size (Lk k)) (fun i _ => 4096 - (intOf i).toNat)
  case atStart => exact ⟨0, Nat.zero_le _, rfl, ho⟩
  case round =>
    obtain ⟨k, hk, rfl, hok⟩ := hrel
    by_cases hlt : k < 4096
    · obtain ⟨q1, q2, q3⟩ := Lk_put k hlt
      go_wp2_with (first
        | (go_at_call 21; refine (digits_c k hlt _).mono ?_; rintro e w3 ⟨rfl, hb3⟩; have ho3 := hok.gr (Gr.of_below hb3 (fun _ => False)) (fun _ _ e => e))
        | (go_at_call 14; refine (put_o (dg k) ho3).mono ?_; rw [q1, q2, q3]; rintro e w4 ⟨rfl, ho4⟩))
      go_roundw
      case rel => exact ⟨k + 1, by omega, by simp, ho4⟩
      case measure => simp only [intOf]; omega
    · obtain rfl : k = 4096 := by omega
      have hL := Lk_full s
      rcases full_cases s hok with ⟨j, e1, e2, e3⟩ | ⟨e1, e0, e2, e3⟩ | ⟨e1, e0, e2, e3⟩
      · go_wp2_with (first
          | (go_at_call 16; refine (find_o s hs hok).mono ?_; rw [e1]; rintro e w5 ⟨rfl, rfl⟩)
          | (go_at_call 14; refine (again_c _ (by first | omega | exact (neg_rem (by omega)).1) (by first | omega | exact (neg_rem (by omega)).2) ho7).mono ?_; rintro e w8 ⟨rfl, ho8⟩)
          | (go_at_call 14; refine (put_o s hok).mono ?_; rw [hL, e2, e3]; rintro e w6 ⟨rfl, ho6⟩)
          | (go_at_call 21; refine (digits_i _ (by first | omega | exact (neg_rem (by omega)).1) (by first | omega | exact (neg_rem (by omega)).2) _).mono ?_; rintro e w7 ⟨rfl, hb7⟩; have ho7 := ho6.gr (Gr.of_below hb7 (fun _ => False)) (fun _ _ e => e))
          | (go_at_call 20; refine (len_full ho8).mono ?_; rintro e w9 ⟨rfl, rfl⟩))
        all_goals (go_ret; obtain ⟨_, _, _, _, hgW⟩ := ho8; exact ⟨rfl, hgW⟩)
      · go_wp2_with (first
          | (go_at_call 16; refine (find_o s hs hok).mono ?_; rw [e1]; rintro e w5 ⟨rfl, rfl⟩)
          | (go_at_call 14; refine (again_c _ (by first | omega | exact (neg_rem (by omega)).1) (by first | omega | exact (neg_rem (by omega)).2) ho7).mono ?_; rintro e w8 ⟨rfl, ho8⟩)
          | (go_at_call 14; refine (put_o s hok).mono ?_; rw [hL, e2, e3]; rintro e w6 ⟨rfl, ho6⟩)
          | (go_at_call 21; refine (digits_i _ (by first | omega | exact (neg_rem (by omega)).1) (by first | omega | exact (neg_rem (by omega)).2) _).mono ?_; rintro e w7 ⟨rfl, hb7⟩; have ho7 := ho6.gr (Gr.of_below hb7 (fun _ => False)) (fun _ _ e => e))
          | (go_at_call 20; refine (len_full ho8).mono ?_; rintro e w9 ⟨rfl, rfl⟩)
          | (go_at_call 11; refine (name_c s _).mono ?_; rw [e0]; rintro e w10 ⟨rfl, rfl⟩))
        all_goals (go_ret; obtain ⟨_, _, _, _, hgW⟩ := ho8; exact ⟨rfl, hgW⟩)
      · go_wp2_with (first
          | (go_at_call 16; refine (find_o s hs hok).mono ?_; rw [e1]; rintro e w5 ⟨rfl, rfl⟩)
          | (go_at_call 14; refine (again_c _ (by first | omega | exact (neg_rem (by omega)).1) (by first | omega | exact (neg_rem (by omega)).2) ho7).mono ?_; rintro e w8 ⟨rfl, ho8⟩)
          | (go_at_call 14; refine (put_o s hok).mono ?_; rw [hL, e2, e3]; rintro e w6 ⟨rfl, ho6⟩)
          | (go_at_call 21; refine (digits_i _ (by first | omega | exact (neg_rem (by omega)).1) (by first | omega | exact (neg_rem (by omega)).2) _).mono ?_; rintro e w7 ⟨rfl, hb7⟩; have ho7 := ho6.gr (Gr.of_below hb7 (fun _ => False)) (fun _ _ e => e))
          | (go_at_call 20; refine (len_full ho8).mono ?_; rintro e w9 ⟨rfl, rfl⟩)
          | (go_at_call 11; refine (name_c s _).mono ?_; rw [e0]; rintro e w10 ⟨rfl, rfl⟩))
        all_goals (go_ret; obtain ⟨_, _, _, _, hgW⟩ := ho8; exact ⟨rfl, hgW⟩)
end Go.Proofs.Ytipdniiamaaolaa
