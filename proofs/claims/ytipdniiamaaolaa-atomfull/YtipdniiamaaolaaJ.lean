/-
  The names that are made of numbers: four small letters each, no two alike.
-/
import Derived.Test.YtipdniiamaaolaaH
import Derived.Laws.BytesArg
import Derived.Laws.Concat
namespace Go.Proofs.Ytipdniiamaaolaa
open Go.RowKit Go.Maps Go.WideMaps Go.Shelf

theorem conv1 (X : World) (c : Int) : (convert 56 9 (.slice (some ⟨X.heap.size, 0, none⟩) 1 1)).run Try.prog (X.alloc (.cells #[.int .u8 c] 5)) = .ok (.string (strOfNums [c])) (X.alloc (.cells #[.int .u8 c] 5)) :=
  run_convert_bytes_arg (P := Try.prog) _ 56 5 Try.underlying56 Try.underlying5 X.heap.size 0 1 1 [c] rfl (fun i hi => by
    obtain rfl : i = 0 := by omega
    simp) 9 Try.underlying9

def lt_ (n k : Nat) : Nat := 97 + n / 26 ^ k % 26
def dgs (n : Nat) : Nat → ByteArray
  | 0 => ⟨#[]⟩
  | k + 1 => strOfNums [(lt_ n k : Int)] ++ dgs n k
theorem lt_lt (n k : Nat) : 97 ≤ lt_ n k ∧ lt_ n k ≤ 122 := by unfold lt_; omega
theorem dgs_data (n : Nat) : (dgs n 4).data = #[UInt8.ofNat (lt_ n 3), UInt8.ofNat (lt_ n 2), UInt8.ofNat (lt_ n 1), UInt8.ofNat (lt_ n 0)] := by
  simp [dgs, strOfNums]
theorem dgs_size (n k : Nat) : (dgs n k).size = k := by
  induction k with
  | zero => rfl
  | succ k ih => rw [dgs, ByteArray.size_append, strOfNums_size, ih]; simp; omega
theorem div_next (n k : Nat) : n / 26 ^ k / 26 = n / 26 ^ (k + 1) := by rw [Nat.div_div_eq_div_mul, Nat.pow_succ]

set_option maxHeartbeats 1600000 in
theorem digits_c (n : Nat) (hn : n < 4096) (W : World) : Calls Try.prog 21 #[.int .i64 (n : Int)] W fun e W' => e = .returned (.string (dgs n 4)) ∧ Below W.heap.size W W' := by
  go_enter Try.func21, Try.ntmps21
  go_wp2
  go_loopw [0, 3, 4] (fun a s i wr => ∃ k : Nat, k ≤ 4 ∧ a = .int .i64 ((n / 26 ^ k : Nat) : Int) ∧ s = .string (dgs n k) ∧ i = .int .i64 k ∧ Below W.heap.size W wr) (fun _ _ i _ => 4 - (intOf i).toNat)
  case atStart => exact ⟨0, Nat.zero_le _, by simp, rfl, rfl, Below.refl _ _⟩
  case round =>
    obtain ⟨k, hk, rfl, rfl, rfl, hb⟩ := hrel
    have hc := conv1
    have hq : n / 26 ^ k ≤ 4096 := Nat.le_trans (Nat.div_le_self _ _) (by omega)
    have hsz := dgs_size n k
    have hadd : ∀ (c : Int) (X : World), (Op.stringOp .add (strOfNums [c]) (dgs n k)).run Try.prog X = .ok (.string (strOfNums [c] ++ dgs n k)) X :=
      fun c X => run_string_add X _ _ (by rw [strOfNums_size]; simp) (by omega)
    clear hsz
    generalize hd : n / 26 ^ k = d at hq ⊢
    by_cases h4 : k < 4
    · go_wp2
      go_roundw
      case rel =>
        refine ⟨k + 1, by omega, ?_, ?_, by simp, hb.alloc hb.size _⟩
        · rw [← div_next, hd]; simp
        · have e : ((lt_ n k : Nat) : Int) = 97 + (d : Int) % 26 := by unfold lt_; rw [hd]; omega
          rw [dgs, e]
      case measure => simp only [intOf]; omega
    · obtain rfl : k = 4 := by omega
      go_wp2
      go_ret
      exact ⟨rfl, hb⟩

/-- The name by a number. -/
def dg (n : Nat) : ByteArray := dgs n 4
theorem dg_bt (n k : Nat) (hk : k < 4) : bt (dg n) k = (lt_ n (3 - k) : Int) := by
  have h := fun j => lt_lt n j
  unfold bt dg
  rw [dgs_data]
  have h0 := h 0; have h1 := h 1; have h2 := h 2; have h3 := h 3
  match k, hk with
  | 0, _ => simp [Nat.mod_eq_of_lt (show lt_ n 3 < 256 by omega)]
  | 1, _ => simp [Nat.mod_eq_of_lt (show lt_ n 2 < 256 by omega)]
  | 2, _ => simp [Nat.mod_eq_of_lt (show lt_ n 1 < 256 by omega)]
  | 3, _ => simp [Nat.mod_eq_of_lt (show lt_ n 0 < 256 by omega)]
theorem dg_size (n : Nat) : (dg n).size = 4 := dgs_size n 4
theorem dg_name (n : Nat) : isName (dg n) = true := by
  have hl : ∀ k, k < 4 → low (bt (dg n) k) = true := fun k hk => by
    have := lt_lt n (3 - k)
    rw [dg_bt n k hk]; simp [low]; omega
  unfold isName
  rw [dg_size]
  have ha : allN (dg n) 4 = true := by
    unfold allN
    rw [List.all_eq_true]
    intro j hj
    have := hl j (List.mem_range.1 hj)
    simp [inN, this]
  simp [hl 0 (by omega), ha]
theorem dg_inj {m n : Nat} (hm : m < 4096) (hn : n < 4096) (h : dg m = dg n) : m = n := by
  have hb : ∀ k, k < 4 → lt_ m (3 - k) = lt_ n (3 - k) := fun k hk => by
    have h1 := dg_bt m k hk
    rw [h, dg_bt n k hk] at h1
    exact (Int.ofNat.inj h1).symm
  have b0 := hb 3 (by omega)
  have b1 := hb 2 (by omega)
  have b2 := hb 1 (by omega)
  simp only [lt_] at b0 b1 b2
  have e0 : (26 : Nat) ^ (3 - 3) = 1 := rfl
  have e1 : (26 : Nat) ^ (3 - 2) = 26 := rfl
  have e2 : (26 : Nat) ^ (3 - 1) = 676 := rfl
  rw [e0] at b0
  rw [e1] at b1
  rw [e2] at b2
  omega
end Go.Proofs.Ytipdniiamaaolaa
