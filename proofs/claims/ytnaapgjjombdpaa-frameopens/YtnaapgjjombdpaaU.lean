/-
  The reference's bytes of numbers, the number that four bytes are, a frame's bytes.
-/
import Derived.Test.YtnaapgjjombdpaaH
import Derived.Test.YtnaapgjjombdpaaN
namespace Go.Proofs.Ytnaapgjjombdpaa
open Go.RowKit Go.Maps
variable {S S' : Nat → Prop} {W W1 W' : World}

theorem four_byte {n : Nat} (h : n < 4294967296) : ∀ x ∈ four n, x < 256 := by
  intro x hx
  simp only [four, List.mem_cons, List.not_mem_nil, or_false] at hx
  omega
set_option maxRecDepth 20000 in
set_option maxHeartbeats 1600000 in
theorem low_r (W : World) (n : Nat) (hn : n < 4294967296) : Calls Try.prog 23 #[.int .u32 (n : Int)] W fun e w' => ∃ g, e = .returned (.slice (some ⟨g, 0, none⟩) 4 4) ∧ Ow W.heap.size w' (.slice (some ⟨g, 0, none⟩) 4 4) (low4 n) ∧ G0 W w' := by
  have hfo := fun w => four_r w n hn
  obtain ⟨b0, e0, l0⟩ : ∃ b, n / 16777216 = b ∧ b < 256 := ⟨_, rfl, by omega⟩
  obtain ⟨b1, e1, l1⟩ : ∃ b, n / 65536 % 256 = b ∧ b < 256 := ⟨_, rfl, by omega⟩
  obtain ⟨b2, e2, l2⟩ : ∃ b, n / 256 % 256 = b ∧ b < 256 := ⟨_, rfl, by omega⟩
  obtain ⟨b3, e3, l3⟩ : ∃ b, n % 256 = b ∧ b < 256 := ⟨_, rfl, by omega⟩
  rw [four, e0, e1, e2, e3] at hfo
  rw [low4, e0, e1, e2, e3]
  clear e0 e1 e2 e3 hn
  go_enter Try.func23, Try.ntmps23
  go_wp2_with fail
  refine (hfo _).mono ?_
  rintro e w1 ⟨rfl, ho, hg⟩
  have c0 : w1.cell? ⟨W.heap.size, 0, none⟩ = some (.int .u8 (b0 : Int)) := (ho.cell rfl (j := 0) (by simp)).1
  have c1 : w1.cell? ⟨W.heap.size, 1, none⟩ = some (.int .u8 (b1 : Int)) := (ho.cell rfl (j := 1) (by simp)).1
  have c2 : w1.cell? ⟨W.heap.size, 2, none⟩ = some (.int .u8 (b2 : Int)) := (ho.cell rfl (j := 2) (by simp)).1
  have c3 : w1.cell? ⟨W.heap.size, 3, none⟩ = some (.int .u8 (b3 : Int)) := (ho.cell rfl (j := 3) (by simp)).1
  have hsz := hg.size
  go_wp2_with fail
  go_region
  go_wp2
  go_ret
  exact ⟨_, rfl, (lit4 W.heap.size w1 b3 b2 b1 b0 l3 l2 l1 l0 hsz).g0 (Gr.drew _ _), (hg.trans (Gr.alloc _ _ _)).trans (Gr.drew _ _)⟩

/-- So many of four bytes as a number, the highest first. -/
def hiN (l : List Nat) : Nat → Nat
  | 0 => 0
  | j + 1 => hiN l j * 256 + l.getD (4 + j) 0
theorem hiN_lt {l : List Nat} (h : ∀ x ∈ l, x < 256) (j : Nat) : hiN l j < 256 ^ j := by
  induction j with
  | zero => simp [hiN]
  | succ j ih =>
    have := getD_lt h (4 + j)
    simp only [hiN, Nat.pow_succ]
    omega
theorem hiN_four (l : List Nat) : hiN l 4 = hi4 l 4 := by
  simp only [hiN, hi4, Nat.add_zero]
  omega
set_option maxRecDepth 20000 in
set_option maxHeartbeats 1600000 in
theorem of_r (W : World) (v : Value) (l : List Nat) (h : Sl W v l) (h8 : 8 ≤ l.length) : Calls Try.prog 26 #[v, .int .i64 4] W fun e w' => e = .returned (.int .u32 (hi4 l 4 : Nat)) ∧ W = w' := by
  obtain ⟨a, cap, rfl, h1, h2, h3⟩ := h.sv
  obtain ⟨b, off, rfl, h5⟩ := h3 (List.ne_nil_of_length_pos (by omega))
  have hl := h.len
  have hb := h.byte
  rw [← hiN_four]
  clear h h3
  go_enter Try.func26, Try.ntmps26
  go_wp2
  go_loop [5, 6] (fun c i => ∃ j : Nat, j ≤ 4 ∧ i = .int .i64 (j : Int) ∧ c = .int .u32 (hiN l j : Nat)) (fun _ i => 4 - (intOf i).toNat)
  case atStart => exact ⟨0, by omega, rfl, rfl⟩
  case round =>
    obtain ⟨j, hj, rfl, rfl⟩ := hrel
    by_cases hlt : j < 4
    · have hc := h5 (4 + j) (by omega)
      have hx := getD_lt hb (4 + j)
      have hn := hiN_lt hb j
      have hp : 256 ^ j ≤ 16777216 := by
        have : 256 ^ j ≤ 256 ^ 3 := Nat.pow_le_pow_right (by decide) (by omega)
        exact this
      have hs : hiN l (j + 1) = hiN l j * 256 + l.getD (4 + j) 0 := rfl
      obtain ⟨x, hxx⟩ : ∃ x, l.getD (4 + j) 0 = x := ⟨_, rfl⟩
      obtain ⟨n, hnn⟩ : ∃ n, hiN l j = n := ⟨_, rfl⟩
      rw [hxx] at hc hx hs
      rw [hnn] at hn hs ⊢
      have hnI : (n : Int) < 16777216 := by omega
      have hjI : (j : Int) < 4 := by omega
      have hlI : (4 : Int) + (j : Int) < (l.length : Int) := by omega
      have hlN : 4 + j < l.length := by omega
      have u1 : IntKind.u32.wrap ((n : Int) * 256) = (n : Int) * 256 := by rw [IntKind.wrap_u32']; omega
      have u2 : IntKind.u32.wrap (x : Int) = (x : Int) := by rw [IntKind.wrap_u32']; omega
      have u3 : IntKind.u32.wrap ((n : Int) * 256 + (x : Int)) = (n : Int) * 256 + (x : Int) := by rw [IntKind.wrap_u32']; omega
      clear hn hp hxx hnn h5 hb
      go_wp2
      go_round
      case rel => exact ⟨j + 1, by omega, by go_num, by rw [hs]; push_cast; rfl⟩
      case measure => simp [intOf]; omega
    · obtain rfl : j = 4 := by omega
      go_wp2
      go_ret
      exact ⟨rfl, rfl⟩

/-- append as one step of a region that draws. -/
theorem step_app {ops : Array Oper} {o : Oper} {a : Act} {w : World} {K : Act → World → Prop} {Q : Exit → Act → World → Prop} {E : Prop} (hgd : o.guard = none) (x y : Operand)
    (ho : o.op = .call { callee := .builtin .append, args := #[x, y], argTypes := #[22, 22] }) (base : Nat) (v s : Value) (l m : List Nat) (hx : a.eval x = v) (hy : a.eval y = s)
    (hv : Ow base w v l) (hs : Sl w s m) (hlen : l.length + m.length ≤ 140737488355328) (hbase : base ≤ w.heap.size)
    (h : ∀ v' w', Ow base w' v' (l ++ m) → w.grownBy w' v.ownBlock → K (a.put o.dst v') w') :
    if Region.wanted o (yielded ops a.tmps) = true then Oper.wp Try.prog o a w K Q else E := by
  have hw : Region.wanted o (yielded ops a.tmps) = true := by simp [Region.wanted, hgd]
  rw [if_pos hw]
  obtain ⟨v', w', hr, h1, h2, _⟩ := app_run w o.type base v s l m hv hs hlen hbase
  unfold Oper.wp execOp
  simp only [ho, resolve, invoke, builtin, Sem.run_bind, Sem.run_pure, Result.andThen_ok, List.map_toArray, List.map_cons, List.map_nil, hx, hy, hr]
  exact h v' w' h1 h2
end Go.Proofs.Ytnaapgjjombdpaa
