/-
  Pack; what the last four bytes say; the frame that bytes say; Open.
-/
import Derived.Test.YtnaapgjjombdpaaD
import Derived.RegionTactic
namespace Go.Proofs.Ytnaapgjjombdpaa
open Go.RowKit Go.Maps
variable {S S' : Nat → Prop} {W W1 W' : World}

theorem chk_zero {f t bo : Int} {n : Nat} (h : chk f t bo n = 0) : 1 ≤ f ∧ f ≤ 64 ∧ 1 ≤ t ∧ t ≤ 64 ∧ f ≠ t ∧ bo ≠ 0 ∧ n ≤ 1200 := by
  unfold chk at h
  split at h
  · cases h
  · rename_i h1
    split at h
    · cases h
    · split at h
      · cases h
      · simp [nod] at h1
        omega
theorem chk_ok {f t bo : Int} {n : Nat} (h : 1 ≤ f ∧ f ≤ 64 ∧ 1 ≤ t ∧ t ≤ 64 ∧ f ≠ t ∧ bo ≠ 0 ∧ n ≤ 1200) : chk f t bo n = 0 := by
  obtain ⟨h1, h2, h3, h4, h5, h6, h7⟩ := h
  have nf : nod f = true := by simp [nod]; omega
  have nt : nod t = true := by simp [nod]; omega
  simp [chk, nf, nt, h5, h6]
  omega

set_option maxHeartbeats 800000 in
theorem pack_no (W : World) (f t bo : Int) (v : Value) (l : List Nat) (h : Sl W v l) (hc : chk f t bo l.length ≠ 0) :
    Calls Try.prog 13 #[fr f t bo v] W fun e w' => e = .returned (.tuple #[.slice none 0 0, .int .i64 (chk f t bo l.length)]) ∧ G0 W w' := by
  obtain ⟨a, cap, rfl, h1, h2, -⟩ := h.sv
  have hn := h.len
  have hck := fun w => check_c w f t bo a l.length cap hn
  generalize chk f t bo l.length = c at *
  have hc2 : (c != 0) = true := by simpa using hc
  clear hc
  go_enter Try.func13, Try.ntmps13
  go_wp2_with (go_at_call 14; refine (hck _).mono ?_; rintro e w1 ⟨rfl, hg⟩)
  go_ret2
  exact ⟨rfl, (Gr.alloc _ _ _).trans hg⟩

set_option maxHeartbeats 800000 in
theorem pack_yes (W : World) (f t bo : Nat) (v : Value) (l : List Nat) (h : Sl W v l) (hb : bo < 4294967296) (hc : chk f t bo l.length = 0) :
    Calls Try.prog 13 #[fr f t bo v] W fun e w' => ∃ v', e = .returned (.tuple #[v', .int .i64 0]) ∧ Ow W.heap.size w' v' (wire f t bo l) ∧ G0 W w' := by
  obtain ⟨hf1, hf2, ht1, ht2, hft, hb0, hl⟩ := chk_zero hc
  obtain ⟨a, cap, rfl, h1, h2, -⟩ := h.sv
  have hn := h.len
  have hck := fun w => check_c w f t bo a l.length cap hn
  rw [hc] at hck
  clear hc
  have hB := heap_alloc_new W (.cells #[.int .i64 f, .int .i64 t, .int .u32 bo, .slice a l.length cap] 28)
  have g0 : G0 W (W.alloc (.cells #[.int .i64 f, .int .i64 t, .int .u32 bo, .slice a l.length cap] 28)) := Gr.alloc _ _ _
  clear hf1 ht1 hft hb0
  go_enter Try.func13, Try.ntmps13
  go_wp2_with (first
    | (go_at_call 14; refine (hck _).mono ?_; rintro e w1 ⟨rfl, hg⟩
       have hB1 := fr_cells ((hg.block _ (by simp) (fun e => e)).trans hB))
    | (go_at_call 20; refine (laid_c w1 f t bo _ l ((h.g0 g0).g0 hg) (by omega) (by omega) hb hl).mono ?_; rintro e w2 ⟨v', rfl, ho, hnn, hg2⟩))
  go_ret2
  have := hg.size
  simp at this
  exact ⟨v', rfl, ho.mono (by omega), (g0.trans hg).trans hg2⟩

/-! ### What the last four bytes say -/
theorem or_bytes (a b c d : Nat) (ha : a < 256) (hb : b < 256) (hc : c < 256) (_hd : d < 256) : ((a ||| b * 256) ||| c * 65536) ||| d * 16777216 = a + b * 256 + c * 65536 + d * 16777216 := by
  rw [Nat.or_comm a, nat_join 8 (b * 256) a (by omega) (by omega), Nat.or_comm (b * 256 + a), nat_join 16 (c * 65536) (b * 256 + a) (by omega) (by omega), Nat.or_comm (c * 65536 + (b * 256 + a)), nat_join 24 (d * 16777216) _ (by omega) (by omega)]
  omega
/-- Four bytes as a number, the lowest first. -/
def num4 (l : List Nat) (k : Nat) : Nat := l.getD k 0 + l.getD (k + 1) 0 * 256 + l.getD (k + 2) 0 * 65536 + l.getD (k + 3) 0 * 16777216

set_option maxRecDepth 20000 in
set_option maxHeartbeats 1600000 in
theorem saidSum_c (W : World) (v : Value) (l : List Nat) (h : Sl W v l) (h4 : 4 ≤ l.length) (hl : l.length ≤ 100000) :
    Calls Try.prog 24 #[v] W fun e w' => e = .returned (.int .u32 (num4 l (l.length - 4) : Nat)) ∧ G0 W w' := by
  obtain ⟨a, cap, rfl, h1, h2, h3⟩ := h.sv
  obtain ⟨b, off, rfl, h5⟩ := h3 (List.ne_nil_of_length_pos (by omega))
  have hb := h.byte
  obtain ⟨n, hn⟩ : ∃ n, l.length = n + 4 := ⟨l.length - 4, by omega⟩
  have c0 := h5 n (by omega)
  have c1 := h5 (n + 1) (by omega)
  have c2 := h5 (n + 2) (by omega)
  have c3 := h5 (n + 3) (by omega)
  have x0 := getD_lt hb n
  have x1 := getD_lt hb (n + 1)
  have x2 := getD_lt hb (n + 2)
  have x3 := getD_lt hb (n + 3)
  rw [hn] at h1 hl ⊢
  rw [Nat.add_sub_cancel, num4]
  rw [← Nat.add_assoc] at c1 c2 c3
  generalize l.getD n 0 = y0 at *
  generalize l.getD (n + 1) 0 = y1 at *
  generalize l.getD (n + 2) 0 = y2 at *
  generalize l.getD (n + 3) 0 = y3 at *
  clear h h3 h5 hb h4 hn
  have hnI : (n : Int) ≤ 100000 := by omega
  have hcn : ¬ cap = n := by omega
  obtain ⟨r, hr⟩ : ∃ r, r = y0 + y1 * 256 + y2 * 65536 + y3 * 16777216 := ⟨_, rfl⟩
  rw [← hr]
  rw [← or_bytes y0 y1 y2 y3 x0 x1 x2 x3] at hr
  obtain ⟨z1, e1, l1⟩ : ∃ z, y0 ||| y1 * 256 = z ∧ z < 2 ^ 32 := ⟨_, rfl, Nat.or_lt_two_pow (by omega) (by omega)⟩
  obtain ⟨z2, e2, l2⟩ : ∃ z, z1 ||| y2 * 65536 = z ∧ z < 2 ^ 32 := ⟨_, rfl, Nat.or_lt_two_pow (by omega) (by omega)⟩
  rw [e1, e2] at hr
  have o1 : bits .or .u32 (y0 : Int) ((y1 : Int) * 256) = (z1 : Int) := by rw [← e1]; exact u32_or_nat y0 (y1 * 256) (by omega) (by omega)
  have o2 : bits .or .u32 (z1 : Int) ((y2 : Int) * 65536) = (z2 : Int) := by rw [← e2]; exact u32_or_nat z1 (y2 * 65536) (by omega) (by omega)
  have o3 : bits .or .u32 (z2 : Int) ((y3 : Int) * 16777216) = (r : Int) := by rw [hr]; exact u32_or_nat z2 (y3 * 16777216) (by omega) (by omega)
  clear e1 e2 hr l1 l2
  go_enter Try.func24, Try.ntmps24
  go_wp2
  go_quiet (fail)
  go_wp2
  go_ret
  exact ⟨rfl, Gr.drewN _ _ _⟩
end Go.Proofs.Ytnaapgjjombdpaa
