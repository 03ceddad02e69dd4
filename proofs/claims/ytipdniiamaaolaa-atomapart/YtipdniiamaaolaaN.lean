/-
  A name never gets another number, a number is its name's, and no two names have one: the walk.
-/
import Derived.Test.YtipdniiamaaolaaM
import Derived.BigQuiet
namespace Go.Proofs.Ytipdniiamaaolaa
open Go.RowKit Go.Maps Go.WideMaps Go.Shelf

/-- What lies in the argument, and in the call's own list of numbers, whatever is laid behind. -/
def CellsN (A : World) (bn off n : Nat) (ss : Nat → ByteArray) : Prop := ∀ X j, Gr (fun _ => False) A X → j < n → X.cell? ⟨bn, off + j, none⟩ = some (.string (ss j))
def CellsA (A : World) (g n : Nat) (f : Nat → Int) : Prop := ∀ X j, Gr (fun _ => False) A X → j < n → X.cell? ⟨g, j, none⟩ = some (.int .i64 (f j))
theorem Gr.drewN (W : World) (n : Nat) (S : Nat → Prop) : Gr S W (W.drewN n) := ⟨rfl, rfl, rfl, Nat.le_refl _, fun _ _ _ => rfl⟩
theorem toList_ne {a b : ByteArray} (h : ¬ a = b) : (a.toList == b.toList) = false := by
  rw [beq_eq_false_iff_ne, ByteArray.toList_eq, ByteArray.toList_eq]
  exact fun e => h (ByteArray.ext (Array.toList_inj.1 e))
theorem lasts_rel {W w3 w4 : World} {b k len : Nat} {ss : Nat → ByteArray} {v v' : Value} {o : Obj} (h1 : k < len) (h2 : k < 200) (ho3 : Own W w3 b (putL (Pk ss k) (ss k))) (hr3 : w3.ownsRow W.heap.size 3 1 v k ((avs ss k).map (Value.int .i64)))
    (hg4 : (w3.alloc o).grownBy w4 v.ownBlock) (hr4 : w4.ownsRow W.heap.size 3 1 v' (k + 1) ((avs ss k).map (Value.int .i64) ++ [.int .i64 (av (Pk ss (k + 1)) (ss k))])) :
    ∃ k_1 : Nat, k_1 ≤ len ∧ k_1 ≤ 200 ∧ Value.int IntKind.i64 ((k : Int) + 1) = Value.int IntKind.i64 (k_1 : Int) ∧ Own W w4 b (Pk ss k_1) ∧ w4.ownsRow W.heap.size 3 1 v' k_1 ((avs ss k_1).map (Value.int .i64)) := by
  refine ⟨k + 1, by omega, by omega, by simp, (ho3.gr (Gr.alloc w3 o (fun _ => False)) (fun _ _ e => e)).grown3 (hr3.alloc _) hg4, ?_⟩
  rw [avs_succ ss k (by omega), List.map_append]
  exact hr4

set_option maxRecDepth 100000 in
set_option maxHeartbeats 8000000 in
theorem lasts_c (W : World) (bn off len cap : Nat) (ss : Nat → ByteArray) (h0 : 0 < len) (hlen : len ≤ 9223372036854775807) (hb : bn < W.heap.size)
    (hc : ∀ j, j < len → W.cell? ⟨bn, off + j, none⟩ = some (.string (ss j))) (hsz : ∀ j, j < len → (ss j).size ≤ maxLen) :
    Calls Try.prog 5 #[.slice (some ⟨bn, off, none⟩) len cap] W fun e W' => e = .returned (.bool true) ∧ Gr (fun _ => False) W W' := by
  obtain ⟨i0, hi, hz0, hz1, hz2⟩ := info_parts info3
  go_enter Try.func5, Try.ntmps5
  go_wp2_with (first
    | (go_at_call 9; refine (alive_c _).mono ?_; rintro e w1 ⟨rfl, hg⟩)
    | (go_at_call 12; refine (new_o hg).mono ?_; rintro e w2 ⟨rfl, ho⟩))
  go_loopw [4, 5] (fun v i wr => ∃ k : Nat, k ≤ len ∧ k ≤ 200 ∧ i = .int .i64 k ∧ Own W wr w1.heap.size (Pk ss k) ∧ wr.ownsRow W.heap.size 3 1 v k ((avs ss k).map (Value.int .i64))) (fun _ i _ => len - (intOf i).toNat)
  case atStart => exact ⟨0, Nat.zero_le _, Nat.zero_le _, rfl, ho, World.ownsRow_nil _ _ _ _⟩
  case round =>
    obtain ⟨k, hk, hk2, rfl, hok, hrow⟩ := hrel
    by_cases hlt : k < len ∧ k < 200
    · obtain ⟨hlt1, hlt2⟩ := hlt
      have hck := (hok.cell ⟨bn, off + k, none⟩ hb).trans (hc k hlt1)
      have hsW : W.heap.size ≤ wr.heap.size := by obtain ⟨_, _, _, _, hgg⟩ := hok; exact hgg.size
      cases hn : isName (ss k)
      · obtain ⟨q1, q2⟩ := av_no ss k hn
        go_wp2_with (first
          | (go_at_call 14; refine (put_r (ss k) hok hrow).mono ?_; rw [q1]; rintro e w3 ⟨rfl, ho3, hr3⟩)
          | (at_builtin; refine wpList_append_own _ rfl _ _ 43 rfl W.heap.size 3 i0 (.int .i64 0) 1 8 Try.underlying43 hi hz0 hz1 hz2 rfl (by decide) u4 k _ rfl (hr3.alloc _) ⟨w3.heap.size, 0, none⟩ 1 1 [.int .i64 (-1)] rfl rfl (cell_one_new _ _ _) (by simp [Value.oneCell']) (by unfold maxLen; omega) (by omega) (by obtain ⟨_, _, _, _, hgg⟩ := ho3; have := hgg.size; simp; omega) ?_; intro v' w4 hr4 hg4 _)
          | go_in)
        go_roundw
        case rel =>
          have hr5 := hr4
          rw [← q2] at hr5
          exact lasts_rel hlt1 hlt2 ho3 hr3 hg4 hr5
        case measure => go_light; simp only [intOf]; omega
      · obtain ⟨q1, q2⟩ := av_name ss k hlt2 hn
        go_wp2_with (first
          | (go_at_call 14; refine (put_r (ss k) hok hrow).mono ?_; rw [q1, q2]; rintro e w3 ⟨rfl, ho3, hr3⟩)
          | (at_builtin; refine wpList_append_own _ rfl _ _ 43 rfl W.heap.size 3 i0 (.int .i64 0) 1 8 Try.underlying43 hi hz0 hz1 hz2 rfl (by decide) u4 k _ rfl (hr3.alloc _) ⟨w3.heap.size, 0, none⟩ 1 1 [.int .i64 (av (Pk ss (k + 1)) (ss k))] rfl rfl (cell_one_new _ _ _) (by simp [Value.oneCell']) (by unfold maxLen; omega) (by omega) (by obtain ⟨_, _, _, _, hgg⟩ := ho3; have := hgg.size; simp; omega) ?_; intro v' w4 hr4 hg4 _)
          | go_in)
        go_roundw
        case rel => exact lasts_rel hlt1 hlt2 ho3 hr3 hg4 hr4
        case measure => go_light; simp only [intOf]; omega
    · obtain ⟨k', rfl⟩ : ∃ k', k = k' + 1 := ⟨k - 1, by omega⟩
      obtain ⟨g, cap', rfl⟩ := ownsRow_succ hrow
      have hcn : CellsN wr bn off (k' + 1) ss := fun X j hX hj => ((hok.gr hX (fun _ _ e => e)).cell ⟨bn, off + j, none⟩ hb).trans (hc j (by omega))
      have hca : CellsA wr g (k' + 1) (fun j => av (Pk ss (k' + 1)) (ss j)) := fun X j hX hj => by
        have h1 := (row3_of_block hrow (fun q hq => hX.block q (hrow.lt q hq).2 (fun e => e))).cellAt (g := g) j (by omega)
        rw [h1]; exact avs_at ss _ j hj
      by_cases hB : k' + 1 < len
      · have h200 : 200 ≤ k' + 1 := by omega
        go_wp2
        go_loopw [8] (fun i X => ∃ q : Nat, q ≤ k' + 1 ∧ i = .int .i64 q ∧ Gr (fun _ => False) wr X) (fun i _ => k' + 1 - (intOf i).toNat)
        case atStart => exact ⟨0, Nat.zero_le _, rfl, Gr.refl _ _⟩
        case round =>
          obtain ⟨q, hq, rfl, hX⟩ := hrel
          have hoX := hok.gr hX (fun _ _ e => e)
          by_cases hql : q < k' + 1
          · have cn := hcn wr q hX hql
            have ca : wr.cell? ⟨g, q, none⟩ = some (.int .i64 (av (Pk ss (k' + 1)) (ss q))) := hca wr q hX hql
            have hsq := hsz q (by omega)
            rcases hf : fnd (Pk ss (k' + 1)) (ss q) 0 with _ | a
            · rw [show av (Pk ss (k' + 1)) (ss q) = -1 by simp [av, hf]] at ca
              go_wp2_with (first
                | (go_at_call 16; refine (find_o (ss q) hsq hoX).mono ?_; rw [hf]; rintro e w5 ⟨rfl, rfl⟩))
              go_roundw
              case rel => exact ⟨q + 1, by omega, by simp, hX⟩
              case measure => go_light; simp only [intOf]; omega
            · rw [show av (Pk ss (k' + 1)) (ss q) = (a : Int) by simp [av, hf]] at ca
              obtain ⟨l1, l2⟩ := fnd_lt hf
              have hS : nameS (Pk ss (k' + 1)) (a : Int) = ss q := by rw [← l2]; simp [nameS, l1, at_]
              have hE : nameE (Pk ss (k' + 1)) (a : Int) = 0 := by simp [nameE, l1]
              have l3 : ¬ (Pk ss (k' + 1)).length ≤ a := by omega
              have l4 : ¬ (a : Int) < 0 := by omega
              go_wp2_with (first
                | (go_at_call 16; refine (find_o (ss q) hsq hoX).mono ?_; rw [hf]; rintro e w5 ⟨rfl, rfl⟩)
                | (go_at_call 17; refine (name_o (a : Int) hoX).mono ?_; rw [hS, hE]; rintro e w6 ⟨rfl, rfl⟩)
                | (go_at_call 20; refine (len_o hoX).mono ?_; rintro e w7 ⟨rfl, rfl⟩))
              go_loopw [13] (fun i Y => ∃ r : Nat, r ≤ q ∧ i = .int .i64 r ∧ Gr (fun _ => False) wr Y) (fun i _ => q - (intOf i).toNat)
              case atStart => exact ⟨0, Nat.zero_le _, rfl, Gr.refl _ _⟩
              case round =>
                obtain ⟨r, hr, rfl, hY⟩ := hrel
                have hXY := hX.trans hY
                by_cases hrq : r < q
                · have cr : wr.cell? ⟨g, r, none⟩ = some (.int .i64 (av (Pk ss (k' + 1)) (ss r))) := hca wr r hXY (by omega)
                  have nr := hcn wr r hXY (by omega)
                  have nq := hcn wr q hXY hql
                  clear cn ca
                  rcases hfr : fnd (Pk ss (k' + 1)) (ss r) 0 with _ | c
                  · rw [show av (Pk ss (k' + 1)) (ss r) = -1 by simp [av, hfr]] at cr
                    go_wp2
                    go_quiet (fail)
                    go_wp2
                    go_roundw
                    case rel => exact ⟨r + 1, by omega, by simp, hY.trans (Gr.drewN _ _ _)⟩
                    case measure => go_light; simp only [intOf]; omega
                  · rw [show av (Pk ss (k' + 1)) (ss r) = (c : Int) by simp [av, hfr]] at cr
                    have hd : decide ((0 : Int) ≤ (c : Int)) = true := decide_eq_true (by omega)
                    by_cases e : ss r = ss q
                    · rw [e, hf] at hfr
                      cases hfr
                      rw [e] at nr
                      go_wp2
                      go_quiet (fail)
                      go_wp2
                      go_roundw
                      case rel => exact ⟨r + 1, by omega, by simp, hY.trans (Gr.drewN _ _ _)⟩
                      case measure => go_light; simp only [intOf]; omega
                    · have hne : c ≠ a := fun h => e (by rw [← (fnd_lt hfr).2, h, l2])
                      have hb1 : ((c : Int) == (a : Int)) = false := beq_eq_false_iff_ne.2 (by omega)
                      have hb2 : ((ss r).toList == (ss q).toList) = false := toList_ne e
                      go_wp2
                      go_quiet (fail)
                      go_wp2
                      go_roundw
                      case rel => exact ⟨r + 1, by omega, by simp, hY.trans (Gr.drewN _ _ _)⟩
                      case measure => go_light; simp only [intOf]; omega
                · obtain rfl : r = q := by omega
                  go_wp2
                  go_roundw
                  case rel => exact ⟨r + 1, by omega, by simp, hXY⟩
                  case measure => go_light; simp only [intOf]; omega
          · obtain rfl : q = k' + 1 := by omega
            go_wp2
            go_ret
            obtain ⟨_, _, _, _, hgW⟩ := hoX
            exact ⟨rfl, hgW⟩
      · go_wp2
        go_loopw [8] (fun i X => ∃ q : Nat, q ≤ k' + 1 ∧ i = .int .i64 q ∧ Gr (fun _ => False) wr X) (fun i _ => k' + 1 - (intOf i).toNat)
        case atStart => exact ⟨0, Nat.zero_le _, rfl, Gr.refl _ _⟩
        case round =>
          obtain ⟨q, hq, rfl, hX⟩ := hrel
          have hoX := hok.gr hX (fun _ _ e => e)
          by_cases hql : q < k' + 1
          · have cn := hcn wr q hX hql
            have ca : wr.cell? ⟨g, q, none⟩ = some (.int .i64 (av (Pk ss (k' + 1)) (ss q))) := hca wr q hX hql
            have hsq := hsz q (by omega)
            rcases hf : fnd (Pk ss (k' + 1)) (ss q) 0 with _ | a
            · rw [show av (Pk ss (k' + 1)) (ss q) = -1 by simp [av, hf]] at ca
              go_wp2_with (first
                | (go_at_call 16; refine (find_o (ss q) hsq hoX).mono ?_; rw [hf]; rintro e w5 ⟨rfl, rfl⟩))
              go_roundw
              case rel => exact ⟨q + 1, by omega, by simp, hX⟩
              case measure => go_light; simp only [intOf]; omega
            · rw [show av (Pk ss (k' + 1)) (ss q) = (a : Int) by simp [av, hf]] at ca
              obtain ⟨l1, l2⟩ := fnd_lt hf
              have hS : nameS (Pk ss (k' + 1)) (a : Int) = ss q := by rw [← l2]; simp [nameS, l1, at_]
              have hE : nameE (Pk ss (k' + 1)) (a : Int) = 0 := by simp [nameE, l1]
              have l3 : ¬ (Pk ss (k' + 1)).length ≤ a := by omega
              have l4 : ¬ (a : Int) < 0 := by omega
              go_wp2_with (first
                | (go_at_call 16; refine (find_o (ss q) hsq hoX).mono ?_; rw [hf]; rintro e w5 ⟨rfl, rfl⟩)
                | (go_at_call 17; refine (name_o (a : Int) hoX).mono ?_; rw [hS, hE]; rintro e w6 ⟨rfl, rfl⟩)
                | (go_at_call 20; refine (len_o hoX).mono ?_; rintro e w7 ⟨rfl, rfl⟩))
              go_loopw [13] (fun i Y => ∃ r : Nat, r ≤ q ∧ i = .int .i64 r ∧ Gr (fun _ => False) wr Y) (fun i _ => q - (intOf i).toNat)
              case atStart => exact ⟨0, Nat.zero_le _, rfl, Gr.refl _ _⟩
              case round =>
                obtain ⟨r, hr, rfl, hY⟩ := hrel
                have hXY := hX.trans hY
                by_cases hrq : r < q
                · have cr : wr.cell? ⟨g, r, none⟩ = some (.int .i64 (av (Pk ss (k' + 1)) (ss r))) := hca wr r hXY (by omega)
                  have nr := hcn wr r hXY (by omega)
                  have nq := hcn wr q hXY hql
                  clear cn ca
                  rcases hfr : fnd (Pk ss (k' + 1)) (ss r) 0 with _ | c
                  · rw [show av (Pk ss (k' + 1)) (ss r) = -1 by simp [av, hfr]] at cr
                    go_wp2
                    go_quiet (fail)
                    go_wp2
                    go_roundw
                    case rel => exact ⟨r + 1, by omega, by simp, hY.trans (Gr.drewN _ _ _)⟩
                    case measure => go_light; simp only [intOf]; omega
                  · rw [show av (Pk ss (k' + 1)) (ss r) = (c : Int) by simp [av, hfr]] at cr
                    have hd : decide ((0 : Int) ≤ (c : Int)) = true := decide_eq_true (by omega)
                    by_cases e : ss r = ss q
                    · rw [e, hf] at hfr
                      cases hfr
                      rw [e] at nr
                      go_wp2
                      go_quiet (fail)
                      go_wp2
                      go_roundw
                      case rel => exact ⟨r + 1, by omega, by simp, hY.trans (Gr.drewN _ _ _)⟩
                      case measure => go_light; simp only [intOf]; omega
                    · have hne : c ≠ a := fun h => e (by rw [← (fnd_lt hfr).2, h, l2])
                      have hb1 : ((c : Int) == (a : Int)) = false := beq_eq_false_iff_ne.2 (by omega)
                      have hb2 : ((ss r).toList == (ss q).toList) = false := toList_ne e
                      go_wp2
                      go_quiet (fail)
                      go_wp2
                      go_roundw
                      case rel => exact ⟨r + 1, by omega, by simp, hY.trans (Gr.drewN _ _ _)⟩
                      case measure => go_light; simp only [intOf]; omega
                · obtain rfl : r = q := by omega
                  go_wp2
                  go_roundw
                  case rel => exact ⟨r + 1, by omega, by simp, hXY⟩
                  case measure => go_light; simp only [intOf]; omega
          · obtain rfl : q = k' + 1 := by omega
            go_wp2
            go_ret
            obtain ⟨_, _, _, _, hgW⟩ := hoX
            exact ⟨rfl, hgW⟩
end Go.Proofs.Ytipdniiamaaolaa
