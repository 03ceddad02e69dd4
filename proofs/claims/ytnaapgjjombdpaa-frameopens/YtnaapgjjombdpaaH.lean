/-
  Two frames that are the same; the reference's bytes of numbers.
-/
import Derived.Test.YtnaapgjjombdpaaE
namespace Go.Proofs.Ytnaapgjjombdpaa
open Go.RowKit Go.Maps
variable {S S' : Nat → Prop} {W W1 W' : World}

theorem str_beq {a b : List Nat} (ha : ∀ x ∈ a, x < 256) (hb : ∀ x ∈ b, x < 256) : ((str a).toList == (str b).toList) = decide (a = b) := by
  by_cases h : a = b
  · subst h; simp
  · simp only [h, decide_false]
    rw [beq_eq_false_iff_ne, ByteArray.toList_eq, ByteArray.toList_eq]
    exact fun e => h (str_inj ha hb (ByteArray.ext (Array.toList_inj.1 e)))

set_option maxRecDepth 20000 in
set_option maxHeartbeats 1600000 in
theorem same_r (W : World) (f t bo f' t' bo' : Int) (v v' : Value) (l l' : List Nat) (h : Sl W v l) (h' : Sl W v' l') :
    Calls Try.prog 15 #[fr f t bo v, fr f' t' bo' v'] W fun e w' => e = .returned (.bool (decide (f = f') && decide (t = t') && decide (bo = bo') && decide (l = l'))) ∧ G0 W w' := by
  obtain ⟨a, cap, rfl, h1, h2, -⟩ := h.sv
  obtain ⟨a', cap', rfl, h1', h2', -⟩ := h'.sv
  by_cases e1 : f = f'
  · by_cases e2 : t = t'
    · by_cases e3 : bo = bo'
      · subst e1 e2 e3
        have k1 : (convert 22 9 (.slice a l.length cap)).run Try.prog ((W.alloc (.cells #[.int .i64 f, .int .i64 t, .int .u32 bo, .slice a l.length cap] 28)).alloc (.cells #[.int .i64 f, .int .i64 t, .int .u32 bo, .slice a' l'.length cap'] 28)) = _ := conv ((h.g0 (Gr.alloc _ _ _)).g0 (Gr.alloc _ _ _))
        have k2 : (convert 22 9 (.slice a' l'.length cap')).run Try.prog ((W.alloc (.cells #[.int .i64 f, .int .i64 t, .int .u32 bo, .slice a l.length cap] 28)).alloc (.cells #[.int .i64 f, .int .i64 t, .int .u32 bo, .slice a' l'.length cap'] 28)) = _ := conv ((h'.g0 (Gr.alloc _ _ _)).g0 (Gr.alloc _ _ _))
        have hs := str_beq h.byte h'.byte
        simp only [decide_true, Bool.true_and]
        generalize decide (l = l') = d at *
        go_enter Try.func15, Try.ntmps15
        go_wp2
        go_ret
        refine ⟨?_, (Gr.alloc _ _ _).trans (Gr.alloc _ _ _)⟩
        rw [← hs]; rfl
      · have hd : decide (bo = bo') = false := by simpa using e3
        have hq : (bo == bo') = false := by simpa using e3
        subst e1 e2
        simp only [hd, Bool.and_false, Bool.false_and]
        clear hd e3
        go_enter Try.func15, Try.ntmps15
        go_wp2
        go_ret
        exact ⟨rfl, (Gr.alloc _ _ _).trans (Gr.alloc _ _ _)⟩
    · have hd : decide (t = t') = false := by simpa using e2
      have hq : (t == t') = false := by simpa using e2
      subst e1
      simp only [hd, Bool.and_false, Bool.false_and]
      clear hd e2
      go_enter Try.func15, Try.ntmps15
      go_wp2
      go_ret
      exact ⟨rfl, (Gr.alloc _ _ _).trans (Gr.alloc _ _ _)⟩
  · have hd : decide (f = f') = false := by simpa using e1
    have hq : (f == f') = false := by simpa using e1
    simp only [hd, Bool.false_and]
    clear hd e1
    go_enter Try.func15, Try.ntmps15
    go_wp2
    go_ret
    exact ⟨rfl, (Gr.alloc _ _ _).trans (Gr.alloc _ _ _)⟩

/-! ### A number's bytes -/
def four (n : Nat) : List Nat := [n / 16777216, n / 65536 % 256, n / 256 % 256, n % 256]
set_option maxRecDepth 20000 in
set_option maxHeartbeats 1600000 in
theorem four_r (W : World) (n : Nat) (hn : n < 4294967296) : Calls Try.prog 22 #[.int .u32 (n : Int)] W fun e w' => e = .returned (.slice (some ⟨W.heap.size, 0, none⟩) 4 4) ∧ Ow W.heap.size w' (.slice (some ⟨W.heap.size, 0, none⟩) 4 4) (four n) ∧ G0 W w' := by
  obtain ⟨b0, e0, l0⟩ : ∃ b, n / 16777216 = b ∧ b < 256 := ⟨_, rfl, by omega⟩
  obtain ⟨b1, e1, l1⟩ : ∃ b, n / 65536 % 256 = b ∧ b < 256 := ⟨_, rfl, by omega⟩
  obtain ⟨b2, e2, l2⟩ : ∃ b, n / 256 % 256 = b ∧ b < 256 := ⟨_, rfl, by omega⟩
  obtain ⟨b3, e3, l3⟩ : ∃ b, n % 256 = b ∧ b < 256 := ⟨_, rfl, by omega⟩
  have ef : four n = [b0, b1, b2, b3] := by rw [four, e0, e1, e2, e3]
  have d0 : (n : Int).tdiv 16777216 = (b0 : Int) := by rw [Int.tdiv_eq_ediv_of_nonneg (by omega)]; omega
  have d1 : (n : Int).tdiv 65536 = ((n / 65536 : Nat) : Int) := by rw [Int.tdiv_eq_ediv_of_nonneg (by omega)]; omega
  have d2 : (n : Int).tdiv 256 = ((n / 256 : Nat) : Int) := by rw [Int.tdiv_eq_ediv_of_nonneg (by omega)]; omega
  have m1 : (((n / 65536 : Nat) : Int)).tmod 256 = (b1 : Int) := by rw [Int.tmod_eq_emod_of_nonneg (by omega)]; omega
  have m2 : (((n / 256 : Nat) : Int)).tmod 256 = (b2 : Int) := by rw [Int.tmod_eq_emod_of_nonneg (by omega)]; omega
  have m3 : (n : Int).tmod 256 = (b3 : Int) := by rw [Int.tmod_eq_emod_of_nonneg (by omega)]; omega
  have u0 : IntKind.u8.wrap (b0 : Int) = b0 := u8n b0 b0 _ rfl (by omega)
  have u1 : IntKind.u8.wrap (b1 : Int) = b1 := u8n b1 b1 _ rfl (by omega)
  have u2 : IntKind.u8.wrap (b2 : Int) = b2 := u8n b2 b2 _ rfl (by omega)
  have u3 : IntKind.u8.wrap (b3 : Int) = b3 := u8n b3 b3 _ rfl (by omega)
  rw [ef]
  clear ef
  have ho := lit4 W.heap.size W b0 b1 b2 b3 l0 l1 l2 l3 (Nat.le_refl _)
  obtain ⟨x1, hx1, hx2⟩ : ∃ x, n / 65536 = x ∧ (x : Int) ≤ 65535 := ⟨_, rfl, by omega⟩
  obtain ⟨x2, hx3, hx4⟩ : ∃ x, n / 256 = x ∧ (x : Int) ≤ 16777215 := ⟨_, rfl, by omega⟩
  rw [hx1] at d1 m1
  rw [hx3] at d2 m2
  clear e0 e1 e2 e3 hx1 hx3
  go_enter Try.func22, Try.ntmps22
  go_wp2
  go_ret
  exact ⟨rfl, ho, Gr.alloc _ _ _⟩
end Go.Proofs.Ytnaapgjjombdpaa
