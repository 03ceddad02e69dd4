/-
  Open: the frame that bytes are, or what is wrong first.
-/
import Derived.Test.YtnaapgjjombdpaaF
namespace Go.Proofs.Ytnaapgjjombdpaa
open Go.RowKit Go.Maps
variable {S S' : Nat → Prop} {W W1 W' : World}

/-- What is wrong with some bytes. -/
def opn (l : List Nat) : Int :=
  if l.length < 12 then 63 else if 1212 < l.length then 62 else if num4 l (l.length - 4) ≠ sum (l.take (l.length - 4)) then 64
  else if l.getD 0 0 ≠ 82 ∨ l.getD 1 0 ≠ 75 then 65 else chk (l.getD 2 0 : Nat) (l.getD 3 0 : Nat) (hi4 l 4 : Nat) (l.length - 12)
/-- How Open ends. -/
def EndO (W : World) (l : List Nat) (e : Ending) (w' : World) : Prop := G0 W w' ∧
  ((opn l ≠ 0 ∧ e = .returned (.tuple #[fr 0 0 0 (.slice none 0 0), .int .i64 (opn l)])) ∨
   (opn l = 0 ∧ ∃ v', e = .returned (.tuple #[fr (l.getD 2 0 : Nat) (l.getD 3 0 : Nat) (hi4 l 4 : Nat) v', .int .i64 0]) ∧ Ow W.heap.size w' v' (body l)))

theorem zero4 {b : Nat} (e : W'.heap[b]? = W.heap[b]?) (h : W.heap[b]? = some (.cells #[.int .i64 0, .int .i64 0, .int .u32 0, .slice none 0 0] 28 (0, 0))) :
    W'.cell? ⟨b, 0, none⟩ = some (.int .i64 0) ∧ W'.cell? ⟨b, 1, none⟩ = some (.int .i64 0) ∧ W'.cell? ⟨b, 2, none⟩ = some (.int .u32 0) ∧ W'.cell? ⟨b, 3, none⟩ = some (.slice none 0 0) ∧
    W'.frozen? ⟨b, 0, none⟩ = false ∧ W'.frozen? ⟨b, 1, none⟩ = false ∧ W'.frozen? ⟨b, 2, none⟩ = false ∧ W'.frozen? ⟨b, 3, none⟩ = false := six_cells e h

theorem EndO.no {l : List Nat} {c : Int} (h : opn l = c) (hc : c ≠ 0) (g : G0 W W') : EndO W l (.returned (.tuple #[fr 0 0 0 (.slice none 0 0), .int .i64 c])) W' := by
  subst h; exact ⟨g, .inl ⟨hc, rfl⟩⟩
/-- What is kept while Open looks: what was there, and the block of the answer. -/
structure Kp (W w : World) : Prop where
  g : G0 W w
  b : w.heap[W.heap.size]? = some (.cells #[.int .i64 0, .int .i64 0, .int .u32 0, .slice none 0 0] 28 (0, 0))
theorem Kp.lt {w : World} (h : Kp W w) : W.heap.size < w.heap.size := (Array.getElem?_eq_some_iff.1 h.b).1
theorem Kp.step {w w' : World} (h : Kp W w) (g : G0 w w') : Kp W w' := ⟨h.g.trans g, (g.block _ h.lt (fun e => e)).trans h.b⟩
theorem Kp.new (W : World) : Kp W (W.alloc (.cells #[.int .i64 0, .int .i64 0, .int .u32 0, .slice none 0 0] 28)) := ⟨Gr.alloc _ _ _, heap_alloc_new W _⟩
theorem Kp.cell {w : World} (h : Kp W w) {b k : Nat} {x : Value} (hc : W.cell? ⟨b, k, none⟩ = some x) : w.cell? ⟨b, k, none⟩ = some x :=
  (World.cell?_of_block (a := ⟨b, k, none⟩) (h.g.block b (World.block_lt_of_cell? W _ hc) (fun e => e))).trans hc

set_option maxRecDepth 20000 in
set_option maxHeartbeats 1600000 in
theorem open_short (W : World) (v : Value) (l : List Nat) (h : Sl W v l) (h12 : l.length < 12) :
    Calls Try.prog 17 #[v] W fun e w' => EndO W l e w' := by
  have ho : opn l = 63 := by simp [opn, h12]
  have hI : (l.length : Int) < 12 := by omega
  have hl := h.len
  obtain ⟨a, cap, rfl, h1, h2, -⟩ := h.sv
  replace ho := Lib.hid ho
  go_enter Try.func17, Try.ntmps17
  go_wp2
  refine bodyPost_ret (v := .tuple #[fr 0 0 0 (.slice none 0 0), .int .i64 63]) (by simp [results, Try.results17, go_sem]) rfl (EndO.no ho.out (by decide) (Gr.alloc _ _ _))

set_option maxRecDepth 20000 in
set_option maxHeartbeats 1600000 in
theorem open_long (W : World) (v : Value) (l : List Nat) (h : Sl W v l) (h12 : 1212 < l.length) :
    Calls Try.prog 17 #[v] W fun e w' => EndO W l e w' := by
  have ho : opn l = 62 := by rw [opn, if_neg (by omega), if_pos h12]
  have hI : ¬ (l.length : Int) < 12 := by omega
  have hI2 : (1212 : Int) < (l.length : Int) := by omega
  have hl := h.len
  obtain ⟨a, cap, rfl, h1, h2, -⟩ := h.sv
  replace ho := Lib.hid ho
  go_enter Try.func17, Try.ntmps17
  go_wp2
  refine bodyPost_ret (v := .tuple #[fr 0 0 0 (.slice none 0 0), .int .i64 62]) (by simp [results, Try.results17, go_sem]) rfl (EndO.no ho.out (by decide) (Gr.alloc _ _ _))

set_option maxRecDepth 20000 in
set_option maxHeartbeats 4000000 in
theorem open_sum (W : World) (v : Value) (l : List Nat) (h : Sl W v l) (h12 : 12 ≤ l.length) (hl : l.length ≤ 1212) (hs : num4 l (l.length - 4) ≠ sum (l.take (l.length - 4))) :
    Calls Try.prog 17 #[v] W fun e w' => EndO W l e w' := by
  have ho : opn l = 64 := by rw [opn, if_neg (by omega), if_neg (by omega), if_pos hs]
  replace ho := Lib.hid ho
  obtain ⟨a, cap, rfl, h1, h2, h3⟩ := h.sv
  obtain ⟨b, off, rfl, h5⟩ := h3 (List.ne_nil_of_length_pos (by omega))
  have hb := h.byte
  obtain ⟨n, hn⟩ : ∃ n, l.length = n + 12 := ⟨l.length - 12, by omega⟩
  have c0 := h5 0 (by omega)
  have c1 := h5 1 (by omega)
  rw [Nat.add_zero] at c0
  have hsub := h.sub 0 (n + 8) (by omega) (by omega)
  rw [Nat.add_zero, Nat.sub_zero, Nat.sub_zero, List.drop_zero] at hsub
  have hsd := fun W h => saidSum_c W (.slice (some ⟨b, off, none⟩) l.length cap) l h (by omega) (by omega)
  have hsm := fun W h => sum_c W (.slice (some ⟨b, off, none⟩) (n + 8) cap) (l.take (n + 8)) h
  have hsa := fun W h => said_c W (.slice (some ⟨b, off, none⟩) l.length cap) l h (by omega) (by omega)
  rw [hn] at hsd hsa
  rw [show n + 12 - 4 = n + 8 by omega] at hsd
  rw [hn, show n + 12 - 4 = n + 8 by omega] at hs
  have hbl : (body l).length = n := by simp [body]; omega
  rw [hn] at h ⊢
  have s1 : (n : Int) + 12 - 4 = (n : Int) + 8 := by omega
  have s3 : (n : Int) + 8 ≤ (cap : Int) := by omega
  have s4 : 0 ≤ (n : Int) + 8 := by omega
  have s6 : ((n : Int) + 8).toNat = n + 8 := by omega
  have s7 : ¬ cap = 0 := by omega
  have v1 : IntKind.i64.wrap ((n : Int) + 8) = (n : Int) + 8 := by rw [IntKind.wrap_i64]; omega
  have v2 : wrap64 ((n : Int) + 8) = (n : Int) + 8 := by rw [← IntWalk.i64_left]; exact v1
  have v3 : IntKind.i64.wrap ((n : Int) + 12 - 4) = (n : Int) + 8 := by rw [s1]; exact v1
  have v4 : wrap64 ((n : Int) + 12 - 4) = (n : Int) + 8 := by rw [← IntWalk.i64_left]; exact v3
  have t1 : ¬ (n : Int) + 12 < 12 := by omega
  have t2 : ¬ (1212 : Int) < (n : Int) + 12 := by omega
  have t3 : (n : Int) ≤ 1200 := by omega
  have hsz : (n : Int) + 12 ≤ 100000 := by omega
  generalize num4 l (n + 8) = x at *
  generalize sum (l.take (n + 8)) = y at *
  have hxy : ((x : Int) != (y : Int)) = true := by simp; omega
  clear hs h3 h5 hb hbl hsa c0 c1
  go_enter Try.func17, Try.ntmps17
  go_wp2_with fail
  have k0 := Kp.new W
  have kd : Kp W ((W.alloc (.cells #[.int .i64 0, .int .i64 0, .int .u32 0, .slice none 0 0] 28)).drew) := k0.step (Gr.drew _ _)
  generalize W.alloc (.cells #[.int .i64 0, .int .i64 0, .int .u32 0, .slice none 0 0] 28) = W0 at *
  go_region_held3 (fun w' => Kp W w') (assumption)
    (first
      | (go_at_call 24; refine (hsd _ ?_).mono ?_; exact h.g0 (Kp.g (by assumption)); rintro e w1 ⟨rfl, hg1⟩; have hk1 : Kp W w1 := Kp.step (by assumption) hg1)
      | (go_at_call 10; refine (hsm _ ?_).mono ?_; exact hsub.g0 (Kp.g (by assumption)); rintro e w2 ⟨rfl, rfl⟩))
  have z4 := zero4 rfl hk1.b
  have hb4 := set4 hk1.b (.int .i64 0) (.int .i64 0) (.int .u32 0) (.slice none 0 0)
  have hg4 := gr4 w1 W.heap.size (.int .i64 0) (.int .i64 0) (.int .u32 0) (.slice none 0 0)
  obtain ⟨p0, p1, p2, p3⟩ := fr_cells hb4
  go_wp2
  exact bodyPost_ret (v := .tuple #[fr 0 0 0 (.slice none 0 0), .int .i64 64]) (by simp [results, Try.results17, go_sem, p0, p1, p2, p3]) rfl (EndO.no ho.out (by decide) (hk1.g.trans' hg4 (fun i hi e => by omega)))

set_option maxRecDepth 20000 in
set_option maxHeartbeats 4000000 in
theorem open_mark0 (W : World) (v : Value) (l : List Nat) (h : Sl W v l) (h12 : 12 ≤ l.length) (hl : l.length ≤ 1212) (hs : num4 l (l.length - 4) = sum (l.take (l.length - 4))) (hm : l.getD 0 0 ≠ 82) :
    Calls Try.prog 17 #[v] W fun e w' => EndO W l e w' := by
  have ho : opn l = 65 := by rw [opn, if_neg (by omega), if_neg (by omega), if_neg (fun e => e hs), if_pos (.inl hm)]
  replace ho := Lib.hid ho
  obtain ⟨a, cap, rfl, h1, h2, h3⟩ := h.sv
  obtain ⟨b, off, rfl, h5⟩ := h3 (List.ne_nil_of_length_pos (by omega))
  have hb := h.byte
  obtain ⟨n, hn⟩ : ∃ n, l.length = n + 12 := ⟨l.length - 12, by omega⟩
  have c0 := h5 0 (by omega)
  have c1 := h5 1 (by omega)
  rw [Nat.add_zero] at c0
  have hsub := h.sub 0 (n + 8) (by omega) (by omega)
  rw [Nat.add_zero, Nat.sub_zero, Nat.sub_zero, List.drop_zero] at hsub
  have hsd := fun W h => saidSum_c W (.slice (some ⟨b, off, none⟩) l.length cap) l h (by omega) (by omega)
  have hsm := fun W h => sum_c W (.slice (some ⟨b, off, none⟩) (n + 8) cap) (l.take (n + 8)) h
  have hsa := fun W h => said_c W (.slice (some ⟨b, off, none⟩) l.length cap) l h (by omega) (by omega)
  rw [hn] at hsd hsa
  rw [show n + 12 - 4 = n + 8 by omega] at hsd
  rw [hn, show n + 12 - 4 = n + 8 by omega] at hs
  have hbl : (body l).length = n := by simp [body]; omega
  rw [hn] at h ⊢
  have s1 : (n : Int) + 12 - 4 = (n : Int) + 8 := by omega
  have s3 : (n : Int) + 8 ≤ (cap : Int) := by omega
  have s4 : 0 ≤ (n : Int) + 8 := by omega
  have s6 : ((n : Int) + 8).toNat = n + 8 := by omega
  have s7 : ¬ cap = 0 := by omega
  have v1 : IntKind.i64.wrap ((n : Int) + 8) = (n : Int) + 8 := by rw [IntKind.wrap_i64]; omega
  have v2 : wrap64 ((n : Int) + 8) = (n : Int) + 8 := by rw [← IntWalk.i64_left]; exact v1
  have v3 : IntKind.i64.wrap ((n : Int) + 12 - 4) = (n : Int) + 8 := by rw [s1]; exact v1
  have v4 : wrap64 ((n : Int) + 12 - 4) = (n : Int) + 8 := by rw [← IntWalk.i64_left]; exact v3
  have t1 : ¬ (n : Int) + 12 < 12 := by omega
  have t2 : ¬ (1212 : Int) < (n : Int) + 12 := by omega
  have t3 : (n : Int) ≤ 1200 := by omega
  have hsz : (n : Int) + 12 ≤ 100000 := by omega
  generalize l.getD 0 0 = y0 at *
  generalize l.getD 1 0 = y1 at *
  generalize num4 l (n + 8) = x at *
  rw [← hs] at hsm
  have hq : ((y0 : Int) != 82) = true := by simp; omega
  have b0 : (0 : Int) < (n : Int) + 12 := by omega
  have b1 : (1 : Int) < (n : Int) + 12 := by omega
  clear hs hm h3 h5 hb hbl hsa
  go_enter Try.func17, Try.ntmps17
  go_wp2_with fail
  have k0 := Kp.new W
  have kd : Kp W ((W.alloc (.cells #[.int .i64 0, .int .i64 0, .int .u32 0, .slice none 0 0] 28)).drew) := k0.step (Gr.drew _ _)
  generalize W.alloc (.cells #[.int .i64 0, .int .i64 0, .int .u32 0, .slice none 0 0] 28) = W0 at *
  go_region_held3 (fun w' => Kp W w') (assumption)
    (first
      | (go_at_call 24; refine (hsd _ ?_).mono ?_; exact h.g0 (Kp.g (by assumption)); rintro e w1 ⟨rfl, hg1⟩; have hk1 : Kp W w1 := Kp.step (by assumption) hg1)
      | (go_at_call 10; refine (hsm _ ?_).mono ?_; exact hsub.g0 (Kp.g (by assumption)); rintro e w2 ⟨rfl, rfl⟩))
  have z4 := zero4 rfl hk1.b
  have d0 := hk1.cell c0
  have d1 := hk1.cell c1
  have hb4 := set4 hk1.b (.int .i64 0) (.int .i64 0) (.int .u32 0) (.slice none 0 0)
  have hg4 := gr4 w1 W.heap.size (.int .i64 0) (.int .i64 0) (.int .u32 0) (.slice none 0 0)
  obtain ⟨p0, p1, p2, p3⟩ := fr_cells hb4
  go_wp2
  exact bodyPost_ret (v := .tuple #[fr 0 0 0 (.slice none 0 0), .int .i64 65]) (by simp [results, Try.results17, go_sem, p0, p1, p2, p3]) rfl (EndO.no ho.out (by decide) (hk1.g.trans' hg4 (fun i hi e => by omega)))

set_option maxRecDepth 20000 in
set_option maxHeartbeats 4000000 in
theorem open_mark1 (W : World) (v : Value) (l : List Nat) (h : Sl W v l) (h12 : 12 ≤ l.length) (hl : l.length ≤ 1212) (hs : num4 l (l.length - 4) = sum (l.take (l.length - 4))) (hm0 : l.getD 0 0 = 82) (hm : l.getD 1 0 ≠ 75) :
    Calls Try.prog 17 #[v] W fun e w' => EndO W l e w' := by
  have ho : opn l = 65 := by rw [opn, if_neg (by omega), if_neg (by omega), if_neg (fun e => e hs), if_pos (.inr hm)]
  replace ho := Lib.hid ho
  obtain ⟨a, cap, rfl, h1, h2, h3⟩ := h.sv
  obtain ⟨b, off, rfl, h5⟩ := h3 (List.ne_nil_of_length_pos (by omega))
  have hb := h.byte
  obtain ⟨n, hn⟩ : ∃ n, l.length = n + 12 := ⟨l.length - 12, by omega⟩
  have c0 := h5 0 (by omega)
  have c1 := h5 1 (by omega)
  rw [Nat.add_zero] at c0
  have hsub := h.sub 0 (n + 8) (by omega) (by omega)
  rw [Nat.add_zero, Nat.sub_zero, Nat.sub_zero, List.drop_zero] at hsub
  have hsd := fun W h => saidSum_c W (.slice (some ⟨b, off, none⟩) l.length cap) l h (by omega) (by omega)
  have hsm := fun W h => sum_c W (.slice (some ⟨b, off, none⟩) (n + 8) cap) (l.take (n + 8)) h
  have hsa := fun W h => said_c W (.slice (some ⟨b, off, none⟩) l.length cap) l h (by omega) (by omega)
  rw [hn] at hsd hsa
  rw [show n + 12 - 4 = n + 8 by omega] at hsd
  rw [hn, show n + 12 - 4 = n + 8 by omega] at hs
  have hbl : (body l).length = n := by simp [body]; omega
  rw [hn] at h ⊢
  have s1 : (n : Int) + 12 - 4 = (n : Int) + 8 := by omega
  have s3 : (n : Int) + 8 ≤ (cap : Int) := by omega
  have s4 : 0 ≤ (n : Int) + 8 := by omega
  have s6 : ((n : Int) + 8).toNat = n + 8 := by omega
  have s7 : ¬ cap = 0 := by omega
  have v1 : IntKind.i64.wrap ((n : Int) + 8) = (n : Int) + 8 := by rw [IntKind.wrap_i64]; omega
  have v2 : wrap64 ((n : Int) + 8) = (n : Int) + 8 := by rw [← IntWalk.i64_left]; exact v1
  have v3 : IntKind.i64.wrap ((n : Int) + 12 - 4) = (n : Int) + 8 := by rw [s1]; exact v1
  have v4 : wrap64 ((n : Int) + 12 - 4) = (n : Int) + 8 := by rw [← IntWalk.i64_left]; exact v3
  have t1 : ¬ (n : Int) + 12 < 12 := by omega
  have t2 : ¬ (1212 : Int) < (n : Int) + 12 := by omega
  have t3 : (n : Int) ≤ 1200 := by omega
  have hsz : (n : Int) + 12 ≤ 100000 := by omega
  generalize l.getD 0 0 = y0 at *
  generalize l.getD 1 0 = y1 at *
  generalize num4 l (n + 8) = x at *
  rw [← hs] at hsm
  subst hm0
  have hq : ((y1 : Int) != 75) = true := by simp; omega
  have b0 : (0 : Int) < (n : Int) + 12 := by omega
  have b1 : (1 : Int) < (n : Int) + 12 := by omega
  clear hs hm h3 h5 hb hbl hsa
  go_enter Try.func17, Try.ntmps17
  go_wp2_with fail
  have k0 := Kp.new W
  have kd : Kp W ((W.alloc (.cells #[.int .i64 0, .int .i64 0, .int .u32 0, .slice none 0 0] 28)).drew) := k0.step (Gr.drew _ _)
  generalize W.alloc (.cells #[.int .i64 0, .int .i64 0, .int .u32 0, .slice none 0 0] 28) = W0 at *
  go_region_held3 (fun w' => Kp W w') (assumption)
    (first
      | (go_at_call 24; refine (hsd _ ?_).mono ?_; exact h.g0 (Kp.g (by assumption)); rintro e w1 ⟨rfl, hg1⟩; have hk1 : Kp W w1 := Kp.step (by assumption) hg1)
      | (go_at_call 10; refine (hsm _ ?_).mono ?_; exact hsub.g0 (Kp.g (by assumption)); rintro e w2 ⟨rfl, rfl⟩))
  have z4 := zero4 rfl hk1.b
  have d0 := hk1.cell c0
  have d1 := hk1.cell c1
  have hb4 := set4 hk1.b (.int .i64 0) (.int .i64 0) (.int .u32 0) (.slice none 0 0)
  have hg4 := gr4 w1 W.heap.size (.int .i64 0) (.int .i64 0) (.int .u32 0) (.slice none 0 0)
  obtain ⟨p0, p1, p2, p3⟩ := fr_cells hb4
  go_wp2
  exact bodyPost_ret (v := .tuple #[fr 0 0 0 (.slice none 0 0), .int .i64 65]) (by simp [results, Try.results17, go_sem, p0, p1, p2, p3]) rfl (EndO.no ho.out (by decide) (hk1.g.trans' hg4 (fun i hi e => by omega)))

end Go.Proofs.Ytnaapgjjombdpaa
