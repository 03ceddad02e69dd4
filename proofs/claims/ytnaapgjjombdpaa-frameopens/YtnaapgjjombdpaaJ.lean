/-
  Open, where its sum and mark are right.
-/
import Derived.Test.YtnaapgjjombdpaaG
namespace Go.Proofs.Ytnaapgjjombdpaa
open Go.RowKit Go.Maps
variable {S S' : Nat → Prop} {W W1 W' : World}

set_option maxRecDepth 20000 in
set_option maxHeartbeats 1000000 in
theorem open_chk (W : World) (v : Value) (l : List Nat) (h : Sl W v l) (h12 : 12 ≤ l.length) (hl : l.length ≤ 1212) (hs : num4 l (l.length - 4) = sum (l.take (l.length - 4))) (hm0 : l.getD 0 0 = 82) (hm1 : l.getD 1 0 = 75)
    (hc : chk (l.getD 2 0 : Nat) (l.getD 3 0 : Nat) (hi4 l 4 : Nat) (l.length - 12) ≠ 0) :
    Calls Try.prog 17 #[v] W fun e w' => EndO W l e w' := by
  have ho : opn l = chk (l.getD 2 0 : Nat) (l.getD 3 0 : Nat) (hi4 l 4 : Nat) (l.length - 12) := by rw [opn, if_neg (by omega), if_neg (by omega), if_neg (fun e => e hs), if_neg (fun e => e.elim (fun h => h hm0) (fun h => h hm1))]
  replace ho := Lib.hid ho
  replace hc := Lib.hid hc
  replace hs := Lib.hid hs
  replace hm0 := Lib.hid hm0
  replace hm1 := Lib.hid hm1
  obtain ⟨a, cap, rfl, h1, h2, h3⟩ := h.sv
  obtain ⟨b, off, rfl, h5⟩ := h3 (List.ne_nil_of_length_pos (by omega))
  have hb := h.byte
  obtain ⟨n, hn⟩ : ∃ n, l.length = n + 12 := ⟨l.length - 12, by omega⟩
  have c0 := h5 0 (by omega)
  have c1 := h5 1 (by omega)
  rw [Nat.add_zero] at c0
  have hsub := h.sub 0 (n + 8) (by omega) (by omega)
  rw [Nat.add_zero, Nat.sub_zero, Nat.sub_zero, List.drop_zero] at hsub
  have hsd := fun W h => saidSum_c W (.slice (some ⟨b, off, none⟩) l.length cap) l h (by omega) (by omega)
  have hsm := fun W h => sum_c W (.slice (some ⟨b, off, none⟩) (n + 8) cap) (l.take (n + 8)) h
  have hsa := fun W h => said_c W (.slice (some ⟨b, off, none⟩) l.length cap) l h (by omega) (by omega)
  rw [hn] at hsd hsa
  rw [show n + 12 - 4 = n + 8 by omega] at hsd
  have hbl : (body l).length = n := by simp [body]; omega
  rw [hn] at h ⊢
  have s1 : (n : Int) + 12 - 4 = (n : Int) + 8 := by omega
  have s3 : (n : Int) + 8 ≤ (cap : Int) := by omega
  have s4 : 0 ≤ (n : Int) + 8 := by omega
  have s6 : ((n : Int) + 8).toNat = n + 8 := by omega
  have s7 : ¬ cap = 0 := by omega
  have v1 : IntKind.i64.wrap ((n : Int) + 8) = (n : Int) + 8 := by rw [IntKind.wrap_i64]; omega
  have v2 : wrap64 ((n : Int) + 8) = (n : Int) + 8 := by rw [← IntWalk.i64_left]; exact v1
  have v3 : IntKind.i64.wrap ((n : Int) + 12 - 4) = (n : Int) + 8 := by rw [s1]; exact v1
  have v4 : wrap64 ((n : Int) + 12 - 4) = (n : Int) + 8 := by rw [← IntWalk.i64_left]; exact v3
  have t1 : ¬ (n : Int) + 12 < 12 := by omega
  have t2 : ¬ (1212 : Int) < (n : Int) + 12 := by omega
  have t3 : (n : Int) ≤ 1200 := by omega
  have hsz : (n : Int) + 12 ≤ 100000 := by omega
  have hck := fun W a cap => check_c W (l.getD 2 0 : Nat) (l.getD 3 0 : Nat) (hi4 l 4 : Nat) a n cap (by omega)
  replace hc := hc.out
  replace ho := ho.out
  rw [hn, show n + 12 - 12 = n from rfl] at hc ho
  rw [hm0.out] at c0
  rw [hm1.out] at c1
  replace hs := hs.out
  rw [hn, show n + 12 - 4 = n + 8 from rfl] at hs
  generalize num4 l (n + 8) = x at *
  rw [← hs] at hsm
  generalize chk (l.getD 2 0 : Nat) (l.getD 3 0 : Nat) (hi4 l 4 : Nat) n = c at *
  have hq : (c != 0) = true := by simpa using hc
  replace hc := Lib.hid hc
  replace ho := Lib.hid ho
  generalize l.getD 2 0 = y2 at *
  generalize l.getD 3 0 = y3 at *
  generalize hi4 l 4 = r at *
  have b0 : (0 : Int) < (n : Int) + 12 := by omega
  have b1 : (1 : Int) < (n : Int) + 12 := by omega
  clear hs h3 h5 hb hm0 hm1
  go_enter Try.func17, Try.ntmps17
  go_wp2_with fail
  have k0 := Kp.new W
  have kd : Kp W ((W.alloc (.cells #[.int .i64 0, .int .i64 0, .int .u32 0, .slice none 0 0] 28)).drew) := k0.step (Gr.drew _ _)
  generalize W.alloc (.cells #[.int .i64 0, .int .i64 0, .int .u32 0, .slice none 0 0] 28) = W0 at *
  go_region_held3 (fun w' => Kp W w') (assumption)
    (first
      | (go_at_call 24; refine (hsd _ ?_).mono ?_; exact h.g0 (Kp.g (by assumption)); rintro e w1 ⟨rfl, hg1⟩; have hk1 : Kp W w1 := Kp.step (by assumption) hg1)
      | (go_at_call 10; refine (hsm _ ?_).mono ?_; exact hsub.g0 (Kp.g (by assumption)); rintro e w2 ⟨rfl, rfl⟩))
  have z4 := zero4 rfl hk1.b
  have d0 := hk1.cell c0
  have d1 := hk1.cell c1
  have hlt1 := hk1.lt
  go_wp2_with fail
  refine (hsa _ (h.g0 hk1.g)).mono ?_
  rintro e w2 ⟨v', rfl, hown, hg2⟩
  obtain ⟨a', c', rfl⟩ := hown.sv
  have hk2 := hk1.step hg2
  rw [hbl]
  go_wp2_with fail
  refine (hck _ _ _).mono ?_
  rintro e w3 ⟨rfl, hg3⟩
  have hk3 := (hk2.step (Gr.alloc _ _ _)).step hg3
  have z5 := zero4 rfl hk3.b
  have f3 := fr_cells ((hg3.block _ (by simp) (fun e => e)).trans (heap_alloc_new w2 _))
  clear z4
  have hb4 := set4 hk3.b (.int .i64 0) (.int .i64 0) (.int .u32 0) (.slice none 0 0)
  have hg4 := gr4 w3 W.heap.size (.int .i64 0) (.int .i64 0) (.int .u32 0) (.slice none 0 0)
  obtain ⟨p0, p1, p2, p3⟩ := fr_cells hb4
  go_wp2
  exact bodyPost_ret (v := .tuple #[fr 0 0 0 (.slice none 0 0), .int .i64 c]) (by simp [results, Try.results17, go_sem, p0, p1, p2, p3]) rfl (EndO.no ho.out hc.out (hk3.g.trans' hg4 (fun i hi e => by omega)))

set_option maxRecDepth 20000 in
set_option maxHeartbeats 1000000 in
theorem open_ok (W : World) (v : Value) (l : List Nat) (h : Sl W v l) (h12 : 12 ≤ l.length) (hl : l.length ≤ 1212) (hs : num4 l (l.length - 4) = sum (l.take (l.length - 4))) (hm0 : l.getD 0 0 = 82) (hm1 : l.getD 1 0 = 75)
    (hc : chk (l.getD 2 0 : Nat) (l.getD 3 0 : Nat) (hi4 l 4 : Nat) (l.length - 12) = 0) :
    Calls Try.prog 17 #[v] W fun e w' => EndO W l e w' := by
  have ho : opn l = chk (l.getD 2 0 : Nat) (l.getD 3 0 : Nat) (hi4 l 4 : Nat) (l.length - 12) := by rw [opn, if_neg (by omega), if_neg (by omega), if_neg (fun e => e hs), if_neg (fun e => e.elim (fun h => h hm0) (fun h => h hm1))]
  replace ho := Lib.hid ho
  replace hc := Lib.hid hc
  replace hs := Lib.hid hs
  replace hm0 := Lib.hid hm0
  replace hm1 := Lib.hid hm1
  obtain ⟨a, cap, rfl, h1, h2, h3⟩ := h.sv
  obtain ⟨b, off, rfl, h5⟩ := h3 (List.ne_nil_of_length_pos (by omega))
  have hb := h.byte
  obtain ⟨n, hn⟩ : ∃ n, l.length = n + 12 := ⟨l.length - 12, by omega⟩
  have c0 := h5 0 (by omega)
  have c1 := h5 1 (by omega)
  rw [Nat.add_zero] at c0
  have hsub := h.sub 0 (n + 8) (by omega) (by omega)
  rw [Nat.add_zero, Nat.sub_zero, Nat.sub_zero, List.drop_zero] at hsub
  have hsd := fun W h => saidSum_c W (.slice (some ⟨b, off, none⟩) l.length cap) l h (by omega) (by omega)
  have hsm := fun W h => sum_c W (.slice (some ⟨b, off, none⟩) (n + 8) cap) (l.take (n + 8)) h
  have hsa := fun W h => said_c W (.slice (some ⟨b, off, none⟩) l.length cap) l h (by omega) (by omega)
  rw [hn] at hsd hsa
  rw [show n + 12 - 4 = n + 8 by omega] at hsd
  have hbl : (body l).length = n := by simp [body]; omega
  rw [hn] at h ⊢
  have s1 : (n : Int) + 12 - 4 = (n : Int) + 8 := by omega
  have s3 : (n : Int) + 8 ≤ (cap : Int) := by omega
  have s4 : 0 ≤ (n : Int) + 8 := by omega
  have s6 : ((n : Int) + 8).toNat = n + 8 := by omega
  have s7 : ¬ cap = 0 := by omega
  have v1 : IntKind.i64.wrap ((n : Int) + 8) = (n : Int) + 8 := by rw [IntKind.wrap_i64]; omega
  have v2 : wrap64 ((n : Int) + 8) = (n : Int) + 8 := by rw [← IntWalk.i64_left]; exact v1
  have v3 : IntKind.i64.wrap ((n : Int) + 12 - 4) = (n : Int) + 8 := by rw [s1]; exact v1
  have v4 : wrap64 ((n : Int) + 12 - 4) = (n : Int) + 8 := by rw [← IntWalk.i64_left]; exact v3
  have t1 : ¬ (n : Int) + 12 < 12 := by omega
  have t2 : ¬ (1212 : Int) < (n : Int) + 12 := by omega
  have t3 : (n : Int) ≤ 1200 := by omega
  have hsz : (n : Int) + 12 ≤ 100000 := by omega
  have hck := fun W a cap => check_c W (l.getD 2 0 : Nat) (l.getD 3 0 : Nat) (hi4 l 4 : Nat) a n cap (by omega)
  replace hc := hc.out
  replace ho := ho.out
  rw [hn, show n + 12 - 12 = n from rfl] at hc ho
  rw [hm0.out] at c0
  rw [hm1.out] at c1
  replace hs := hs.out
  rw [hn, show n + 12 - 4 = n + 8 from rfl] at hs
  generalize num4 l (n + 8) = x at *
  rw [← hs] at hsm
  rw [hc] at hck ho
  replace ho := Lib.hid ho
  have hi2 := h.byte
  clear hc
  have hE : Hid (∀ w' v', G0 W w' → Ow W.heap.size w' v' (body l) → EndO W l (.returned (.tuple #[fr (l.getD 2 0 : Nat) (l.getD 3 0 : Nat) (hi4 l 4 : Nat) v', .int .i64 0])) w') := Lib.hid (fun w' v' g o => ⟨g, .inr ⟨ho.out, v', rfl, o⟩⟩)
  clear ho hi2
  generalize l.getD 2 0 = y2 at *
  generalize l.getD 3 0 = y3 at *
  generalize hi4 l 4 = r at *
  have b0 : (0 : Int) < (n : Int) + 12 := by omega
  have b1 : (1 : Int) < (n : Int) + 12 := by omega
  clear hs h3 h5 hb hm0 hm1
  go_enter Try.func17, Try.ntmps17
  go_wp2_with fail
  have k0 := Kp.new W
  have kd : Kp W ((W.alloc (.cells #[.int .i64 0, .int .i64 0, .int .u32 0, .slice none 0 0] 28)).drew) := k0.step (Gr.drew _ _)
  generalize W.alloc (.cells #[.int .i64 0, .int .i64 0, .int .u32 0, .slice none 0 0] 28) = W0 at *
  go_region_held3 (fun w' => Kp W w') (assumption)
    (first
      | (go_at_call 24; refine (hsd _ ?_).mono ?_; exact h.g0 (Kp.g (by assumption)); rintro e w1 ⟨rfl, hg1⟩; have hk1 : Kp W w1 := Kp.step (by assumption) hg1)
      | (go_at_call 10; refine (hsm _ ?_).mono ?_; exact hsub.g0 (Kp.g (by assumption)); rintro e w2 ⟨rfl, rfl⟩))
  have z4 := zero4 rfl hk1.b
  have d0 := hk1.cell c0
  have d1 := hk1.cell c1
  have hlt1 := hk1.lt
  go_wp2_with fail
  refine (hsa _ (h.g0 hk1.g)).mono ?_
  rintro e w2 ⟨v', rfl, hown, hg2⟩
  obtain ⟨a', c', rfl⟩ := hown.sv
  have hk2 := hk1.step hg2
  rw [hbl]
  go_wp2_with fail
  refine (hck _ _ _).mono ?_
  rintro e w3 ⟨rfl, hg3⟩
  have hk3 := (hk2.step (Gr.alloc _ _ _)).step hg3
  have z5 := zero4 rfl hk3.b
  have f3 := fr_cells ((hg3.block _ (by simp) (fun e => e)).trans (heap_alloc_new w2 _))
  clear z4
  have hb4 := set4 hk3.b (.int .i64 y2) (.int .i64 y3) (.int .u32 r) (.slice a' n c')
  have hg4 := gr4 w3 W.heap.size (.int .i64 y2) (.int .i64 y3) (.int .u32 r) (.slice a' n c')
  obtain ⟨p0, p1, p2, p3⟩ := fr_cells hb4
  rw [hbl] at hown
  go_wp2
  refine bodyPost_ret (v := .tuple #[fr y2 y3 r (.slice a' n c'), .int .i64 0]) (by simp [results, Try.results17, go_sem, p0, p1, p2, p3]) rfl (hE.out _ _ (hk3.g.trans' hg4 (fun i hi e => by omega)) ?_)
  exact ((((hown.g0 (Gr.alloc _ _ _)).g0 hg3).gr hg4 (fun k hk _ e => by omega)).mono (by omega))

theorem open_c (W : World) (v : Value) (l : List Nat) (h : Sl W v l) : Calls Try.prog 17 #[v] W fun e w' => EndO W l e w' := by
  by_cases h1 : l.length < 12
  · exact open_short W v l h h1
  by_cases h2 : 1212 < l.length
  · exact open_long W v l h h2
  have h1' : 12 ≤ l.length := Nat.le_of_not_lt h1
  have h2' : l.length ≤ 1212 := Nat.le_of_not_lt h2
  by_cases h3 : num4 l (l.length - 4) = sum (l.take (l.length - 4))
  · by_cases h4 : l.getD 0 0 = 82
    · by_cases h5 : l.getD 1 0 = 75
      · by_cases h6 : chk (l.getD 2 0 : Nat) (l.getD 3 0 : Nat) (hi4 l 4 : Nat) (l.length - 12) = 0
        · exact open_ok W v l h h1' h2' h3 h4 h5 h6
        · exact open_chk W v l h h1' h2' h3 h4 h5 h6
      · exact open_mark1 W v l h h1' h2' h3 h4 h5
    · exact open_mark0 W v l h h1' h2' h3 h4
  · exact open_sum W v l h h1' h2' h3
end Go.Proofs.Ytnaapgjjombdpaa
