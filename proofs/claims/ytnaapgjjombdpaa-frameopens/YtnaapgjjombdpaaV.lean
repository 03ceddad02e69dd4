/-
  The reference's bytes of a frame.
-/
import Derived.Test.YtnaapgjjombdpaaU
namespace Go.Proofs.Ytnaapgjjombdpaa
open Go.RowKit Go.Maps
variable {S S' : Nat → Prop} {W W1 W' : World}

theorem wire_four (f t bo : Nat) (l : List Nat) : ([82, 75, f, t] ++ four bo ++ l) ++ low4 (sum ([82, 75, f, t] ++ four bo ++ l)) = wire f t bo l := rfl

theorem Gr.cell (g : Gr S W W') {a : Addr} {x : Value} (h : W.cell? a = some x) (hs : ¬ S a.block) : W'.cell? a = some x :=
  (World.cell?_of_block (g.block a.block (World.block_lt_of_cell? W _ h) hs)).trans h
/-- A frame's four cells. -/
abbrev Fc (w : World) (b : Nat) (x y z u : Value) : Prop := w.cell? ⟨b, 0, none⟩ = some x ∧ w.cell? ⟨b, 1, none⟩ = some y ∧ w.cell? ⟨b, 2, none⟩ = some z ∧ w.cell? ⟨b, 3, none⟩ = some u
theorem Gr.four (g : Gr S W W') {b : Nat} (hs : ¬ S b) {x y z u : Value} (h : Fc W b x y z u) : Fc W' b x y z u :=
  ⟨g.cell h.1 hs, g.cell h.2.1 hs, g.cell h.2.2.1 hs, g.cell h.2.2.2 hs⟩

theorem four_g (W : World) (n : Nat) (hn : n < 4294967296) : Calls Try.prog 22 #[.int .u32 (n : Int)] W fun e w' => ∃ g, e = .returned (.slice (some ⟨g, 0, none⟩) 4 4) ∧ Ow W.heap.size w' (.slice (some ⟨g, 0, none⟩) 4 4) (four n) ∧ G0 W w' :=
  (four_r W n hn).mono fun _ _ h => ⟨_, h⟩
set_option maxRecDepth 20000 in
set_option maxHeartbeats 1600000 in
theorem bytes_r (W : World) (f t bo : Nat) (v : Value) (l : List Nat) (h : Sl W v l) (hf : f < 256) (ht : t < 256) (hb : bo < 4294967296) (hl : l.length ≤ 1200) :
    Calls Try.prog 16 #[fr f t bo v] W fun e w' => ∃ v', e = .returned v' ∧ Ow W.heap.size w' v' (wire f t bo l) ∧ G0 W w' := by
  obtain ⟨a, cap, rfl, h1, h2, -⟩ := h.sv
  have wf : IntKind.u8.wrap (f : Int) = f := u8n f f _ rfl (by omega)
  have wt : IntKind.u8.wrap (t : Int) = t := u8n t t _ rfl (by omega)
  have hfo := fun w => four_g w bo hb
  have hfl : (four bo).length = 4 := rfl
  obtain ⟨wi, hwi⟩ : ∃ wi, wire f t bo l = wi := ⟨_, rfl⟩
  rw [← wire_four] at hwi
  rw [← wire_four, hwi]
  replace hwi := Lib.hid hwi
  have hfb := four_byte hb
  generalize four bo = F at *
  have g0 : G0 W (W.alloc (.cells #[.int .i64 f, .int .i64 t, .int .u32 bo, .slice a l.length cap] 28)) := Gr.alloc _ _ _
  have hB := heap_alloc_new W (.cells #[.int .i64 f, .int .i64 t, .int .u32 bo, .slice a l.length cap] 28)
  have hs0 : (W.alloc (.cells #[.int .i64 f, .int .i64 t, .int .u32 bo, .slice a l.length cap] 28)).heap.size = W.heap.size + 1 := by simp
  go_enter Try.func16, Try.ntmps16
  go_wp2_with fail
  generalize hW0 : W.alloc _ = W0 at *
  have hBlt : W.heap.size < W0.heap.size := by omega
  have d := fr_cells hB
  obtain ⟨d0, d1, d2, d3⟩ := d
  have gd : G0 W W0.drew := g0.trans (Gr.drew _ _)
  have hs0' : W.heap.size + 1 ≤ W0.heap.size := by omega
  clear hW0 hB hs0
  go_region_held3 (fun w' => w'.cell? ⟨W.heap.size, 0, none⟩ = some (.int .i64 (f : Int)) ∧ w'.cell? ⟨W.heap.size, 1, none⟩ = some (.int .i64 (t : Int)) ∧ w'.cell? ⟨W.heap.size, 2, none⟩ = some (.int .u32 (bo : Int)) ∧ w'.cell? ⟨W.heap.size, 3, none⟩ = some (.slice a l.length cap)) (go_keep)
    (first
      | (go_at_call 22; refine (hfo _).mono ?_; rintro e w1 ⟨g1, rfl, ho, hg⟩; have k1 : Fc w1 W.heap.size (.int .i64 (f : Int)) (.int .i64 (t : Int)) (.int .u32 (bo : Int)) (.slice a l.length cap) := hg.four (fun e => e) (by assumption))
      | (refine step_app rfl _ _ rfl (W.heap.size + 1) _ _ [82, 75, f, t] F rfl rfl (((lit4 (W.heap.size + 1) W0 82 75 f t (by omega) (by omega) hf ht (by omega)).g0 (Gr.drew _ _)).g0 hg) ho.sl (by simp [hfl]) (by have := hg.size; simp at this; omega) ?_
         intro v2 w2 o2 gr2
         have gw : Gr (fun k => W.heap.size + 1 ≤ k) W0 w2 := (((Gr.alloc W0 _ _).trans (Gr.drew _ _)).trans (hg.mono (fun _ _ e => e.elim))).trans ((((lit4 (W.heap.size + 1) W0 82 75 f t (by omega) (by omega) hf ht (by omega)).g0 (Gr.drew _ _)).g0 hg).grown gr2)
         have k2 : Fc w2 W.heap.size (.int .i64 (f : Int)) (.int .i64 (t : Int)) (.int .u32 (bo : Int)) (.slice a l.length cap) := gw.four (by simp) ⟨d0, d1, d2, d3⟩)
      | (refine step_app rfl _ _ rfl (W.heap.size + 1) _ _ [82, 75, f, t] F rfl rfl (lit4 (W.heap.size + 1) w1 82 75 f t (by omega) (by omega) hf ht (by have := hg.size; simp at this; omega)) (ho.sl.g0 (Gr.alloc _ _ _)) (by simp [hfl]) (by have := hg.size; simp at this ⊢; omega) ?_
         intro v2 w2 o2 gr2
         have gw : Gr (fun k => W.heap.size + 1 ≤ k) W0 w2 := (((Gr.drew W0 _).trans (hg.mono (fun _ _ e => e.elim))).trans (Gr.alloc _ _ _)).trans ((lit4 (W.heap.size + 1) w1 82 75 f t (by omega) (by omega) hf ht (by have := hg.size; simp at this; omega)).grown gr2)
         have k2 : Fc w2 W.heap.size (.int .i64 (f : Int)) (.int .i64 (t : Int)) (.int .u32 (bo : Int)) (.slice a l.length cap) := gw.four (by simp) ⟨d0, d1, d2, d3⟩)
      | fail)
  all_goals
    obtain ⟨L, hL⟩ : ∃ L, [82, 75, f, t] ++ F ++ l = L := ⟨_, rfl⟩
    have hLl : L.length ≤ 1300 := by rw [← hL]; simp [hfl]; omega
    replace hL := Lib.hid hL
    have hw2 : W.heap.size + 1 ≤ w2.heap.size := by have := gw.size; omega
    go_wp2_with (at_builtin; first
      | (refine wpList_app _ rfl _ _ rfl (W.heap.size + 1) v2 _ ([82, 75, f, t] ++ F) l rfl rfl o2 (h.g0 (g0.new gw (Nat.le_succ _))) (by simp [hfl]; omega) (by omega) ?_
         intro v3 w3 o3 g3 n3
         rw [hL.out] at o3
         have gw3 := gw.trans (o2.grown g3)
         have hw3 : W.heap.size + 1 ≤ w3.heap.size := by have := g3.size; omega))
    refine (sum_r w3 v3 L o3.sl).mono ?_
    rintro e w4 ⟨rfl, rfl⟩
    have hsl := sum_lt L o3.byte
    have hwi2 : Hid (L ++ low4 (sum L) = wi) := Lib.hid (by have := hwi.out; rw [hL.out] at this; exact this)
    have hsl4 : (low4 (sum L)).length = 4 := rfl
    have hlo := fun w => low_r w (sum L) hsl
    generalize low4 (sum L) = m4 at *
    generalize sum L = s at *
    go_wp2_with fail
    refine (hlo _).mono ?_
    rintro e w5 ⟨g5, rfl, o5, hg5⟩
    go_wp2_with (at_builtin; first
      | (refine wpList_app _ rfl _ _ rfl (W.heap.size + 1) v3 _ L m4 rfl rfl (o3.g0 hg5) o5.sl (by omega) (by have := hg5.size; omega) ?_
         intro v6 w6 o6 g6 n6
         have gw6 := (gw3.trans (hg5.mono (fun _ _ e => e.elim))).trans ((o3.g0 hg5).grown g6)))
    go_ret
    refine ⟨v6, rfl, ?_, g0.new gw6 (Nat.le_succ _)⟩
    rw [← hwi2.out]
    exact o6.mono (Nat.le_succ _)
end Go.Proofs.Ytnaapgjjombdpaa
