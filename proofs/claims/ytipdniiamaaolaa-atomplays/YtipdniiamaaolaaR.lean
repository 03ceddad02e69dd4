/-
  Any calls of a table, one after the other: the walk.
-/
import Derived.Test.YtipdniiamaaolaaQ
namespace Go.Proofs.Ytipdniiamaaolaa
open Go.RowKit Go.Maps Go.WideMaps Go.Shelf

theorem opAt {X X' : World} {a b c : Value} (g : Gr (fun _ => False) (X.alloc (Obj.cells #[a, b, c] 29)) X') : X'.cell? ⟨X.heap.size, 2, none⟩ = some c := by
  have h := (g.block X.heap.size (by simp) (fun e => e)).trans (heap_alloc_new X _)
  simp [World.cell?, h]

set_option maxRecDepth 100000 in
set_option maxHeartbeats 8000000 in
theorem plays_c (W : World) (bn off len cap : Nat) (kd nn : Nat → Int) (ss : Nat → ByteArray) (h0 : 0 < len) (hlen : len ≤ 9223372036854775807) (hb : bn < W.heap.size)
    (hk0 : ∀ j, j < len → W.cell? ⟨bn, off + j * 3, none⟩ = some (.int .i64 (kd j))) (hk1 : ∀ j, j < len → W.cell? ⟨bn, off + j * 3 + 1, none⟩ = some (.int .i64 (nn j)))
    (hk2 : ∀ j, j < len → W.cell? ⟨bn, off + j * 3 + 2, none⟩ = some (.string (ss j))) (hsz : ∀ j, j < len → (ss j).size ≤ maxLen) :
    Calls Try.prog 4 #[.slice (some ⟨bn, off, none⟩) len cap] W fun e W' => e = .returned (.bool true) ∧ Gr (fun _ => False) W W' := by
  go_enter Try.func4, Try.ntmps4
  go_wp2_with (first
    | (go_at_call 9; refine (alive_c _).mono ?_; rintro e w1 ⟨rfl, hg⟩)
    | (go_at_call 12; refine (new_o hg).mono ?_; rintro e w2 ⟨rfl, ho⟩))
  have hd0 := duo_new ho
  clear ho
  go_loopw [3, 4, 5] (fun tv lv i wr => ∃ (k b : Nat) (l : List ByteArray), k ≤ len ∧ k ≤ 300 ∧ tv = pt b ∧ i = .int .i64 k ∧ Duo W wr b l lv l) (fun _ _ i _ => len - (intOf i).toNat)
  case atStart => exact ⟨0, _, [], Nat.zero_le _, Nat.zero_le _, rfl, rfl, hd0⟩
  case round =>
    obtain ⟨k, b, l, hk, hk2', rfl, rfl, hd⟩ := hrel
    obtain ⟨al, cl, rfl⟩ := duo_len hd
    by_cases hlt : k < len ∧ k < 300
    · obtain ⟨hlt1, hlt2⟩ := hlt
      have c0 := (hd.own.cell ⟨bn, off + k * 3, none⟩ hb).trans (hk0 k hlt1)
      have c1 := (hd.own.cell ⟨bn, off + k * 3 + 1, none⟩ hb).trans (hk1 k hlt1)
      have c2 := (hd.own.cell ⟨bn, off + k * 3 + 2, none⟩ hb).trans (hk2 k hlt1)
      have hsk := hsz k hlt1
      have hll : (l.length : Int) ≤ 4096 := by have := hd.snap.1; omega
      clear hk0 hk1 hk2 hsz
      by_cases q0 : kd k = 0
      · rw [q0] at c0
        have hdA := hd.gr (Gr.alloc wr (Obj.cells #[Value.int IntKind.i64 0, Value.int IntKind.i64 (nn k), Value.string (ss k)] 29) (fun _ => False))
        go_wp2_with (first
          | (go_at_call 13; refine (duo_refPut (ss k) hdA).mono ?_; rintro e w3 ⟨lv', rfl, hd3, hg3⟩; have o2 := opAt hg3; obtain ⟨al', cl', rfl⟩ := duo_len hd3)
          | (go_at_call 14; refine (duo_put (ss k) hd3).mono ?_; rintro e w4 ⟨rfl, hd4⟩)
          | (go_at_call 20; refine (len_o hd4.own).mono ?_; rintro e w9 ⟨rfl, rfl⟩))
        go_roundw
        case rel => exact ⟨k + 1, b, putL l (ss k), by omega, by omega, rfl, by simp, hd4⟩
        case measure => go_light; simp only [intOf]; omega
      by_cases q1 : kd k = 1
      · rw [q1] at c0
        have hdA := hd.gr (Gr.alloc wr (Obj.cells #[Value.int IntKind.i64 1, Value.int IntKind.i64 (nn k), Value.string (ss k)] 29) (fun _ => False))
        rcases hf : fnd l (ss k) 0 with _ | a
        · have ha : av l (ss k) = -1 := by simp [av, hf]
          go_wp2_with (first
            | (go_at_call 15; refine (refFind_c _ _ l (ss k) hdA.snap).mono ?_; rw [ha]; rintro e w3 ⟨rfl, rfl⟩)
            | (go_at_call 16; refine (find_o (ss k) hsk hdA.own).mono ?_; rw [hf]; rintro e w4 ⟨rfl, rfl⟩)
            | (go_at_call 20; refine (len_o hdA.own).mono ?_; rintro e w9 ⟨rfl, rfl⟩))
          go_roundw
          case rel => exact ⟨k + 1, b, l, by omega, by omega, rfl, by simp, hdA⟩
          case measure => go_light; simp only [intOf]; omega
        · have ha : av l (ss k) = (a : Int) := by simp [av, hf]
          go_wp2_with (first
            | (go_at_call 15; refine (refFind_c _ _ l (ss k) hdA.snap).mono ?_; rw [ha]; rintro e w3 ⟨rfl, rfl⟩)
            | (go_at_call 16; refine (find_o (ss k) hsk hdA.own).mono ?_; rw [hf]; rintro e w4 ⟨rfl, rfl⟩)
            | (go_at_call 20; refine (len_o hdA.own).mono ?_; rintro e w9 ⟨rfl, rfl⟩))
          go_roundw
          case rel => exact ⟨k + 1, b, l, by omega, by omega, rfl, by simp, hdA⟩
          case measure => go_light; simp only [intOf]; omega
      by_cases q2 : kd k = 2
      · rw [q2] at c0
        by_cases n0 : 0 ≤ nn k
        · by_cases n1 : nn k < (l.length : Int)
          · obtain ⟨q, hq⟩ : ∃ q : Nat, nn k = (q : Int) := ⟨(nn k).toNat, by omega⟩
            have hql : q < l.length := by omega
            rw [hq] at c1
            have hdA := hd.gr (Gr.alloc wr (Obj.cells #[Value.int IntKind.i64 2, Value.int IntKind.i64 (q : Int), Value.string (ss k)] 29) (fun _ => False))
            have eS : nameS l (q : Int) = at_ l q := by simp [nameS, hql, at_]
            have eE : nameE l (q : Int) = 0 := by simp [nameE, hql]
            obtain ⟨g, rfl, cg⟩ := hdA.snap.cell hql
            clear n0 n1 hq
            go_wp2_with (first
              | (go_at_call 17; refine (name_o (q : Int) hdA.own).mono ?_; rw [eS, eE]; rintro e w3 ⟨rfl, rfl⟩)
              | (go_at_call 20; refine (len_o hdA.own).mono ?_; rintro e w9 ⟨rfl, rfl⟩))
            go_roundw
            case rel => exact ⟨k + 1, b, l, by omega, by omega, rfl, by simp, hdA⟩
            case measure => go_light; simp only [intOf]; omega
          · have eS : nameS l (nn k) = ⟨#[]⟩ := by simp [nameS, n1]
            have eE : nameE l (nn k) = 32 := by simp [nameE, n1]
            have hdA := hd.gr (Gr.alloc wr (Obj.cells #[Value.int IntKind.i64 2, Value.int IntKind.i64 (nn k), Value.string (ss k)] 29) (fun _ => False))
            go_wp2_with (first
              | (go_at_call 17; refine (name_o (nn k) hdA.own).mono ?_; rw [eS, eE]; rintro e w3 ⟨rfl, rfl⟩)
              | (go_at_call 20; refine (len_o hdA.own).mono ?_; rintro e w9 ⟨rfl, rfl⟩))
            go_roundw
            case rel => exact ⟨k + 1, b, l, by omega, by omega, rfl, by simp, hdA⟩
            case measure => go_light; simp only [intOf]; omega
        · have eS : nameS l (nn k) = ⟨#[]⟩ := by simp [nameS, n0]
          have eE : nameE l (nn k) = 32 := by simp [nameE, n0]
          have hdA := hd.gr (Gr.alloc wr (Obj.cells #[Value.int IntKind.i64 2, Value.int IntKind.i64 (nn k), Value.string (ss k)] 29) (fun _ => False))
          go_wp2_with (first
            | (go_at_call 17; refine (name_o (nn k) hdA.own).mono ?_; rw [eS, eE]; rintro e w3 ⟨rfl, rfl⟩)
            | (go_at_call 20; refine (len_o hdA.own).mono ?_; rintro e w9 ⟨rfl, rfl⟩))
          go_roundw
          case rel => exact ⟨k + 1, b, l, by omega, by omega, rfl, by simp, hdA⟩
          case measure => go_light; simp only [intOf]; omega
      by_cases q3 : kd k = 3
      · rw [q3] at c0
        have hdA := hd.gr (Gr.alloc wr (Obj.cells #[Value.int IntKind.i64 3, Value.int IntKind.i64 (nn k), Value.string (ss k)] 29) (fun _ => False))
        go_wp2_with (first
          | (go_at_call 18; refine (duo_all _ hdA).mono ?_; rintro e w3 ⟨rfl, hd3⟩)
          | (go_at_call 20; refine (len_o hd3.own).mono ?_; rintro e w9 ⟨rfl, rfl⟩))
        go_roundw
        case rel => exact ⟨k + 1, b, l, by omega, by omega, rfl, by simp, hd3⟩
        case measure => go_light; simp only [intOf]; omega
      by_cases q4 : kd k = 4
      · rw [q4] at c0
        have hdA := hd.gr (Gr.alloc wr (Obj.cells #[Value.int IntKind.i64 4, Value.int IntKind.i64 (nn k), Value.string (ss k)] 29) (fun _ => False))
        go_wp2_with (first
          | (go_at_call 19; refine (duo_copy hdA).mono ?_; rintro e w3 ⟨c, rfl, ht3, hg3⟩)
          | (go_at_call 14; refine (trio_put _ ht3).mono ?_; clear ht3; rintro e w4 ⟨rfl, ht3⟩; have hd4 := ht3.duo)
          | (go_at_call 20; refine (len_o hd4.own).mono ?_; rintro e w9 ⟨rfl, rfl⟩))
        go_roundw
        case rel => exact ⟨k + 1, c, l, by omega, by omega, rfl, by simp, hd4⟩
        case measure => go_light; simp only [intOf]; omega
      have z0 : (kd k == 0) = false := beq_eq_false_iff_ne.2 q0
      have z1 : (kd k == 1) = false := beq_eq_false_iff_ne.2 q1
      have z2 : (kd k == 2) = false := beq_eq_false_iff_ne.2 q2
      have z3 : (kd k == 3) = false := beq_eq_false_iff_ne.2 q3
      have z4 : (kd k == 4) = false := beq_eq_false_iff_ne.2 q4
      have hdA := hd.gr (Gr.alloc wr (Obj.cells #[Value.int IntKind.i64 (kd k), Value.int IntKind.i64 (nn k), Value.string (ss k)] 29) (fun _ => False))
      go_wp2_with (first
        | (go_at_call 20; refine (len_o hdA.own).mono ?_; rintro e w9 ⟨rfl, rfl⟩))
      go_roundw
      case rel => exact ⟨k + 1, b, l, by omega, by omega, rfl, by simp, hdA⟩
      case measure => go_light; simp only [intOf]; omega
    · have hdd := hd
      by_cases hB : k < len
      · have h300 : 300 ≤ k := by omega
        go_wp2_with (first
          | (go_at_call 18; refine (duo_all _ hdd).mono ?_; rintro e w3 ⟨rfl, hd3⟩))
        go_ret
        exact ⟨rfl, hd3.keep⟩
      · go_wp2_with (first
          | (go_at_call 18; refine (duo_all _ hdd).mono ?_; rintro e w3 ⟨rfl, hd3⟩))
        go_ret
        exact ⟨rfl, hd3.keep⟩
end Go.Proofs.Ytipdniiamaaolaa
