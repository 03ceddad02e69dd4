/-
  FramePacks' walk.
-/
import Derived.Test.YtnaapgjjombdpaaV
import Derived.Test.YtnaapgjjombdpaaR
namespace Go.Proofs.Ytnaapgjjombdpaa
open Go.RowKit Go.Maps
variable {S S' : Nat → Prop} {W W1 W' : World}

/-- What is kept while FramePacks goes on: the frame that came in, and its copy. -/
structure Pk (W : World) (G : Nat) (f t bo : Int) (v v2 : Value) (l : List Nat) (w : World) : Prop where
  g : G0 W w
  fc : Fc w W.heap.size (.int .i64 f) (.int .i64 t) (.int .u32 bo) v
  gc : Fc w G (.int .i64 f) (.int .i64 t) (.int .u32 bo) v2
  sl : Sl w v l
  ow : Ow (G + 1) w v2 l
theorem Pk.step {w w' : World} {G : Nat} {f t bo : Int} {v v2 : Value} {l : List Nat} (h : Pk W G f t bo v v2 l w) (g : G0 w w') : Pk W G f t bo v v2 l w' :=
  ⟨h.g.trans g, g.four (fun e => e) h.fc, g.four (fun e => e) h.gc, h.sl.g0 g, h.ow.g0 g⟩
theorem Pk.new {w1 w2 : World} {f t bo : Int} {v v2 : Value} {l : List Nat} {ty : TypeId} (hs : Sl W v l) (g1 : G0 W w1) (f1 : Fc w1 W.heap.size (.int .i64 f) (.int .i64 t) (.int .u32 bo) v)
    (gE : Gr (fun k => w1.heap.size + 1 ≤ k) (w1.alloc (.cells #[.int .i64 f, .int .i64 t, .int .u32 bo, v] ty)) w2) (ho : Ow (w1.heap.size + 1) w2 v2 l) (hlt : W.heap.size < w1.heap.size) :
    Pk W w1.heap.size f t bo v v2 l (w2.setCell ⟨w1.heap.size, 3, none⟩ v2) := by
  have gA : Gr (fun k => w1.heap.size ≤ k) w1 (w2.setCell ⟨w1.heap.size, 3, none⟩ v2) :=
    ((Gr.alloc w1 _ _).trans (gE.mono (fun i _ e => by omega))).trans (Gr.set (S := fun k => w1.heap.size ≤ k) w2 ⟨w1.heap.size, 3, none⟩ v2 (Nat.le_refl _))
  have gz : G0 W (w2.setCell ⟨w1.heap.size, 3, none⟩ v2) := g1.new gA (Nat.le_of_lt hlt)
  have hb := (gE.block w1.heap.size (by simp) (by simp)).trans (heap_alloc_new w1 _)
  have hb2 := fr_cells (heap_setCell_same w2 w1.heap.size 3 _ ty v2 hb)
  refine ⟨gz, gA.four (b := W.heap.size) (by omega) f1, hb2, hs.g0 gz, ?_⟩
  exact ho.gr (Gr.set (S := fun k => k = w1.heap.size) w2 ⟨w1.heap.size, 3, none⟩ v2 rfl) (fun k hk _ e => by omega)

set_option maxRecDepth 20000 in
set_option maxHeartbeats 1000000 in
theorem packs_big (W : World) (f t bo : Int) (v : Value) (l : List Nat) (h : Sl W v l) (hl : 65536 < l.length) :
    Calls Try.prog 4 #[fr f t bo v] W fun e W' => e = .returned (.bool true) ∧ Below W.heap.size W W' := by
  obtain ⟨a, cap, rfl, h1, h2, -⟩ := h.sv
  have hlI : (65536 : Int) < (l.length : Int) := by omega
  have g0 : G0 W (W.alloc (.cells #[.int .i64 f, .int .i64 t, .int .u32 bo, .slice a l.length cap] 28)) := Gr.alloc _ _ _
  have hB := heap_alloc_new W (.cells #[.int .i64 f, .int .i64 t, .int .u32 bo, .slice a l.length cap] 28)
  have hlt : W.heap.size < (W.alloc (.cells #[.int .i64 f, .int .i64 t, .int .u32 bo, .slice a l.length cap] 28)).heap.size := by simp
  go_enter Try.func4, Try.ntmps4
  go_wp2_with fail
  refine (alive_c _).mono ?_
  rintro e w1 ⟨rfl, hg1⟩
  have f1 := fr_cells ((hg1.block _ hlt (fun e => e)).trans hB)
  go_wp2_with fail
  go_ret
  exact ⟨rfl, (g0.trans hg1).below (Nat.le_refl _) (fun _ e => e.elim)⟩

set_option maxRecDepth 20000 in
set_option maxHeartbeats 1000000 in
theorem packs_no (W : World) (f t bo : Int) (v : Value) (l : List Nat) (h : Sl W v l) (hl : l.length ≤ 65536) (c : Int) (hc : chk f t bo l.length = c) (h0 : c ≠ 0) :
    Calls Try.prog 4 #[fr f t bo v] W fun e W' => e = .returned (.bool true) ∧ Below W.heap.size W W' := by
  have hp := fun w v h => pack_no' w f t bo v l h c hc h0
  have hcc := fun w a cap => check_c w f t bo a l.length cap h.len
  have hcr := fun w a cap => check_r w f t bo a l.length cap h.len
  rw [hc] at hcc hcr
  have hsm := fun w v v' h h' => same_yes w f t bo v v' l h h'
  have q2 : (c != 0) = true := by simpa using h0
  clear hc h0
  obtain ⟨a, cap, rfl, h1, h2, -⟩ := h.sv
  have hlI : ¬ (65536 : Int) < (l.length : Int) := by omega
  have g0 : G0 W (W.alloc (.cells #[.int .i64 f, .int .i64 t, .int .u32 bo, .slice a l.length cap] 28)) := Gr.alloc _ _ _
  have hB := heap_alloc_new W (.cells #[.int .i64 f, .int .i64 t, .int .u32 bo, .slice a l.length cap] 28)
  have hlt : W.heap.size < (W.alloc (.cells #[.int .i64 f, .int .i64 t, .int .u32 bo, .slice a l.length cap] 28)).heap.size := by simp
  go_enter Try.func4, Try.ntmps4
  go_wp2_with fail
  refine (alive_c _).mono ?_
  rintro e w1 ⟨rfl, hg1⟩
  have hB1 := (hg1.block _ hlt (fun e => e)).trans hB
  have hlt1 := Nat.lt_of_lt_of_le hlt hg1.size
  have f1 := fr_cells hB1
  obtain ⟨G, hG⟩ : ∃ G, G = w1.heap.size := ⟨_, rfl⟩
  have hsG : (w1.alloc (.cells #[.int .i64 f, .int .i64 t, .int .u32 bo, .slice a l.length cap] 28)).heap.size = w1.heap.size + 1 := by simp
  have oE := Ow.lit (w1.heap.size + 1) (w1.alloc (.cells #[.int .i64 f, .int .i64 t, .int .u32 bo, .slice a l.length cap] 28)) [] (by simp) (by simp) (Nat.le_of_eq hsG.symm) #[] rfl 0 rfl
  rw [hsG] at oE
  go_wp2_with (first
    | (at_builtin; refine wpList_app _ rfl _ _ rfl (w1.heap.size + 1) _ _ [] l rfl rfl oE (((h.g0 (g0.trans hg1)).g0 (Gr.alloc _ _ _)).g0 (Gr.alloc _ _ _)) (by simp; omega) (by simp) ?_
       intro v' w2 hown hgrow hnil
       clear hnil
       rw [List.nil_append] at hown
       obtain ⟨a2, c2, rfl⟩ := hown.sv
       have gE : Gr (fun k => w1.heap.size + 1 ≤ k) (w1.alloc (.cells #[.int .i64 f, .int .i64 t, .int .u32 bo, .slice a l.length cap] 28)) w2 := (Gr.alloc _ _ _).trans (oE.grown hgrow)
       have bG := six_cells (gE.block w1.heap.size (by simp) (by simp)) (heap_alloc_new w1 _)
       have bF := Gr.four ((Gr.alloc w1 _ _).trans gE) (b := W.heap.size) (by simp; omega) f1
       have hne : W.heap.size ≠ w1.heap.size := by omega))
  have k3 := Pk.new h (g0.trans hg1) f1 gE hown hlt1
  clear bG bF hgrow gE oE hsG hB1 hB
  generalize w2.setCell ⟨w1.heap.size, 3, none⟩ (.slice a2 l.length c2) = w3 at *
  generalize w1.heap.size = G at *
  refine (hcr _ _ _).mono ?_
  rintro e w4 ⟨rfl, hg4⟩
  have k4 := k3.step hg4
  have b4 := k4.gc
  go_wp2_with fail
  refine (hp _ _ k4.ow.sl).mono ?_
  rintro e w5 ⟨rfl, hg5⟩
  have k5 := k4.step hg5
  have b5 := k5.gc
  go_wp2_with fail
  refine (hcc _ _ _).mono ?_
  rintro e w6 ⟨rfl, hg6⟩
  have k6 := k5.step hg6
  have b6 := k6.gc
  have c6 := k6.fc
  go_wp2_with fail
  refine (hsm _ _ _ k6.sl k6.ow.sl).mono ?_
  rintro e w7 ⟨rfl, hg7⟩
  go_wp2_with fail
  go_ret
  exact ⟨rfl, (k6.g.trans hg7).below (Nat.le_refl _) (fun _ e => e.elim)⟩
set_option maxRecDepth 20000 in
set_option maxHeartbeats 1000000 in
theorem packs_yes (W : World) (f t bo : Nat) (v : Value) (l : List Nat) (h : Sl W v l) (hbo : bo < 4294967296) (hc : chk f t bo l.length = 0) :
    Calls Try.prog 4 #[fr f t bo v] W fun e W' => e = .returned (.bool true) ∧ Below W.heap.size W W' := by
  obtain ⟨wi, hwi⟩ : ∃ wi, wire f t bo l = wi := ⟨_, rfl⟩
  obtain ⟨-, -, -, -, -, p6⟩ := opn_wire f t bo l hc
  rw [hwi] at p6
  obtain ⟨hf1, hf2, ht1, ht2, hft, hb0, hl⟩ := chk_zero hc
  have hp := fun w v h => pack_yes' w f t bo v l wi h hbo hc hwi
  have hby := fun w v h => bytes_r w f t bo v l h (by omega) (by omega) hbo hl
  rw [hwi] at hby
  rw [p6] at hp
  have hcc := fun w a cap => check_c w f t bo a l.length cap h.len
  have hcr := fun w a cap => check_r w f t bo a l.length cap h.len
  rw [hc] at hcc hcr
  have hsm := fun w v v' h h' => same_yes w f t bo v v' l h h'
  clear hc hwi hf1 hf2 ht1 ht2 hft hb0
  obtain ⟨a, cap, rfl, h1, h2, -⟩ := h.sv
  have hlI : ¬ (65536 : Int) < (l.length : Int) := by omega
  have g0 : G0 W (W.alloc (.cells #[.int .i64 f, .int .i64 t, .int .u32 bo, .slice a l.length cap] 28)) := Gr.alloc _ _ _
  have hB := heap_alloc_new W (.cells #[.int .i64 f, .int .i64 t, .int .u32 bo, .slice a l.length cap] 28)
  have hlt : W.heap.size < (W.alloc (.cells #[.int .i64 f, .int .i64 t, .int .u32 bo, .slice a l.length cap] 28)).heap.size := by simp
  go_enter Try.func4, Try.ntmps4
  go_wp2_with fail
  refine (alive_c _).mono ?_
  rintro e w1 ⟨rfl, hg1⟩
  have hB1 := (hg1.block _ hlt (fun e => e)).trans hB
  have hlt1 := Nat.lt_of_lt_of_le hlt hg1.size
  have f1 := fr_cells hB1
  obtain ⟨G, hG⟩ : ∃ G, G = w1.heap.size := ⟨_, rfl⟩
  have hsG : (w1.alloc (.cells #[.int .i64 f, .int .i64 t, .int .u32 bo, .slice a l.length cap] 28)).heap.size = w1.heap.size + 1 := by simp
  have oE := Ow.lit (w1.heap.size + 1) (w1.alloc (.cells #[.int .i64 f, .int .i64 t, .int .u32 bo, .slice a l.length cap] 28)) [] (by simp) (by simp) (Nat.le_of_eq hsG.symm) #[] rfl 0 rfl
  rw [hsG] at oE
  go_wp2_with (first
    | (at_builtin; refine wpList_app _ rfl _ _ rfl (w1.heap.size + 1) _ _ [] l rfl rfl oE (((h.g0 (g0.trans hg1)).g0 (Gr.alloc _ _ _)).g0 (Gr.alloc _ _ _)) (by simp; omega) (by simp) ?_
       intro v' w2 hown hgrow hnil
       clear hnil
       rw [List.nil_append] at hown
       obtain ⟨a2, c2, rfl⟩ := hown.sv
       have gE : Gr (fun k => w1.heap.size + 1 ≤ k) (w1.alloc (.cells #[.int .i64 f, .int .i64 t, .int .u32 bo, .slice a l.length cap] 28)) w2 := (Gr.alloc _ _ _).trans (oE.grown hgrow)
       have bG := six_cells (gE.block w1.heap.size (by simp) (by simp)) (heap_alloc_new w1 _)
       have bF := Gr.four ((Gr.alloc w1 _ _).trans gE) (b := W.heap.size) (by simp; omega) f1
       have hne : W.heap.size ≠ w1.heap.size := by omega))
  have k3 := Pk.new h (g0.trans hg1) f1 gE hown hlt1
  clear bG bF hgrow gE oE hsG hB1 hB
  generalize w2.setCell ⟨w1.heap.size, 3, none⟩ (.slice a2 l.length c2) = w3 at *
  generalize w1.heap.size = G at *
  refine (hcr _ _ _).mono ?_
  rintro e w4 ⟨rfl, hg4⟩
  have k4 := k3.step hg4
  have b4 := k4.gc
  go_wp2_with fail
  refine (hp _ _ k4.ow.sl).mono ?_
  rintro e w5 ⟨x5, c5, rfl, ow5, hg5⟩
  rw [← p6] at ow5
  obtain ⟨g, cap5, e5, hgb⟩ := ow5.form (List.ne_nil_of_length_pos (by omega))
  rw [e5] at ow5
  rw [p6] at e5 ow5
  obtain ⟨rfl, rfl⟩ : x5 = some ⟨g, 0, none⟩ ∧ cap5 = c5 := by cases e5; exact ⟨rfl, rfl⟩
  clear e5
  have k5 := k4.step hg5
  have b5 := k5.gc
  go_wp2_with fail
  refine (hcc _ _ _).mono ?_
  rintro e w6 ⟨rfl, hg6⟩
  have k6 := k5.step hg6
  have b6 := k6.gc
  have c6 := k6.fc
  go_wp2_with fail
  refine (hsm _ _ _ k6.sl k6.ow.sl).mono ?_
  rintro e w7 ⟨rfl, hg7⟩
  have k7 := k6.step hg7
  have g57 := hg6.trans hg7
  have cv7 := conv (ow5.g0 g57).sl
  have c7 := k7.fc
  have cvd : (convert 22 9 (.slice (some ⟨g, 0, none⟩) (l.length + 12) cap5)).run Try.prog w7.drew = .ok (.string (str wi)) w7.drew := conv ((ow5.g0 g57).g0 (Gr.drew _ _)).sl
  have hbb : ((str wi).toList == (str wi).toList) = true := by simp
  clear b4 b5 b6 c6
  go_wp2_with fail
  go_region_with (first
    | (go_at_call 16; refine (hby _ _ (k7.sl.g0 (Gr.drew _ _))).mono ?_; rintro e w8 ⟨v8, rfl, ow8, hg8⟩; have k8 := k7.step ((Gr.drew _ _).trans hg8); have cv8 := conv (ow5.g0 (g57.trans ((Gr.drew _ _).trans hg8))).sl; obtain ⟨a8, d8, rfl⟩ := ow8.sv; rw [p6] at ow8 ⊢; have cw8 := conv ow8.sl; have c8 := k8.fc)
    | fail)
  all_goals
    have g58 : Gr (fun i => w4.heap.size ≤ i) w4 w8 := (hg5.mono (fun _ _ e => e.elim)).trans ((g57.trans ((Gr.drew _ _).trans hg8)).mono (fun _ _ e => e.elim))
    have ow58 := ow5.g0 (g57.trans ((Gr.drew _ _).trans hg8))
    have k4h := Lib.hid k4
    clear cv7 cvd cv8 cw8 c7 c8 k3 k5 k6 k7 k8 f1 k4
    go_wp2_with fail
    go_loopw [7] (fun i wr => ∃ (j : Nat) (m : List Nat), j ≤ l.length + 12 ∧ i = .int .i64 (j : Int) ∧ m.length = l.length + 12 ∧ Ow w4.heap.size wr (.slice (some ⟨g, 0, none⟩) (l.length + 12) cap5) m ∧ Gr (fun i => w4.heap.size ≤ i) w4 wr) (fun i _ => l.length + 12 - (intOf i).toNat)
    case atStart => exact ⟨0, wi, by omega, rfl, p6, ow58, g58⟩
    case round =>
      obtain ⟨j, m, hj, rfl, hm, ho, hgr⟩ := hrel
      by_cases hj4 : j < l.length + 12
      · obtain ⟨cj, fj⟩ := ho.cell hm.symm (j := j) (by omega)
        have hst := ho.stored hm.symm j 9 (by omega)
        have hgs := hgr.trans (Gr.set (S := fun i => w4.heap.size ≤ i) wr ⟨g, j, none⟩ (.int .u8 9) hgb)
        have hmm : (m.set j 9).length = l.length + 12 := by rw [List.length_set]; exact hm
        replace hst := Lib.hid hst
        replace hgs := Lib.hid hgs
        replace hmm := Lib.hid hmm
        have hjI : (j : Int) < (l.length : Int) + 12 := by omega
        go_wp2_with fail
        exact ⟨⟨j + 1, m.set j 9, by omega, by go_num, hmm.out, hst.out, hgs.out⟩, by simp [intOf]; omega⟩
      · obtain rfl : j = l.length + 12 := by omega
        have kr := k4h.out.step ((Gr.refl _ w4).new hgr (Nat.le_refl _))
        have br := kr.gc
        have cr := kr.fc
        go_wp2_with fail
        refine (hsm _ _ _ kr.sl kr.ow.sl).mono ?_
        rintro e w9 ⟨rfl, hg9⟩
        go_wp2_with fail
        go_ret
        exact ⟨rfl, (kr.g.trans hg9).below (Nat.le_refl _) (fun _ e => e.elim)⟩
end Go.Proofs.Ytnaapgjjombdpaa
