/-
  The frame that bytes say, whether it may be or not.
-/
import Derived.Test.YtnaapgjjombdpaaE
import Derived.BigRegion
import Derived.Deep.RegionHeld3
namespace Go.Proofs.Ytnaapgjjombdpaa
open Go.RowKit Go.Maps
variable {S S' : Nat → Prop} {W W1 W' : World}

theorem Ow.sv {base : Nat} {v : Value} {l : List Nat} (h : Ow base W v l) : ∃ a cap, v = .slice a l.length cap := by
  obtain ⟨a, cap, e, _⟩ := h.sl.sv
  exact ⟨a, cap, e⟩
theorem six_cells {b : Nat} {x y z u : Value} {ty : TypeId} (e : W'.heap[b]? = W.heap[b]?) (h : W.heap[b]? = some (.cells #[x, y, z, u] ty (0, 0))) :
    W'.cell? ⟨b, 0, none⟩ = some x ∧ W'.cell? ⟨b, 1, none⟩ = some y ∧ W'.cell? ⟨b, 2, none⟩ = some z ∧ W'.cell? ⟨b, 3, none⟩ = some u ∧
    W'.frozen? ⟨b, 0, none⟩ = false ∧ W'.frozen? ⟨b, 1, none⟩ = false ∧ W'.frozen? ⟨b, 2, none⟩ = false ∧ W'.frozen? ⟨b, 3, none⟩ = false := by
  simp [World.cell?, World.frozen?, e, h]
theorem set4 {b : Nat} {x y z u : Value} {ty : TypeId} (h : W.heap[b]? = some (.cells #[x, y, z, u] ty (0, 0))) (p q r s : Value) :
    ((((W.setCell ⟨b, 0, none⟩ p).setCell ⟨b, 1, none⟩ q).setCell ⟨b, 2, none⟩ r).setCell ⟨b, 3, none⟩ s).heap[b]? = some (.cells #[p, q, r, s] ty (0, 0)) := by
  have h1 := heap_setCell_same W b 0 _ ty p h
  have h2 := heap_setCell_same _ b 1 _ ty q h1
  have h3 := heap_setCell_same _ b 2 _ ty r h2
  exact heap_setCell_same _ b 3 _ ty s h3
theorem gr4 (W : World) (b : Nat) (p q r s : Value) : Gr (fun k => k = b) W ((((W.setCell ⟨b, 0, none⟩ p).setCell ⟨b, 1, none⟩ q).setCell ⟨b, 2, none⟩ r).setCell ⟨b, 3, none⟩ s) :=
  (((Gr.set (S := fun k => k = b) W ⟨b, 0, none⟩ p rfl).trans (Gr.set (S := fun k => k = b) _ ⟨b, 1, none⟩ q rfl)).trans (Gr.set (S := fun k => k = b) _ ⟨b, 2, none⟩ r rfl)).trans (Gr.set (S := fun k => k = b) _ ⟨b, 3, none⟩ s rfl)
theorem Sl.sub {b off len cap : Nat} {l : List Nat} (h : Sl W (.slice (some ⟨b, off, none⟩) len cap) l) (i j : Nat) (hi : i ≤ j) (hj : j ≤ l.length) : Sl W (.slice (some ⟨b, off + i, none⟩) (j - i) (cap - i)) ((l.drop i).take (j - i)) := by
  have hln : ((l.drop i).take (j - i)).length = j - i := by simp; omega
  refine ⟨fun x hx => h.byte x (List.mem_of_mem_drop (List.mem_of_mem_take hx)), by rw [hln]; have := h.len; omega, .inr ⟨⟨b, off + i, none⟩, cap - i, by rw [hln], ?_, ?_, fun k hk => ?_⟩⟩
  · rcases h.at' with ⟨e, _⟩ | ⟨a, c, e, h1, h2, h3⟩
    · cases e
    · cases e; rw [hln]; omega
  · rcases h.at' with ⟨e, _⟩ | ⟨a, c, e, h1, h2, h3⟩
    · cases e
    · cases e; omega
  · rw [hln] at hk
    rcases h.at' with ⟨e, _⟩ | ⟨a, c, e, h1, h2, h3⟩
    · cases e
    · cases e
      have := h3 (i + k) (by omega)
      rw [Addr.add_lit] at this ⊢
      rw [Nat.add_assoc, this]
      congr 3
      simp only [List.getD_eq_getElem?_getD, List.getElem?_take, List.getElem?_drop, if_pos hk]

theorem or_bytes' (a b c d : Nat) (_ha : a < 256) (hb : b < 256) (hc : c < 256) (hd : d < 256) : ((a * 16777216 ||| b * 65536) ||| c * 256) ||| d = a * 16777216 + b * 65536 + c * 256 + d := by
  rw [nat_join 24 (a * 16777216) (b * 65536) (by omega) (by omega), nat_join 16 (a * 16777216 + b * 65536) (c * 256) (by omega) (by omega), nat_join 8 (a * 16777216 + b * 65536 + c * 256) d (by omega) (by omega)]
/-- Four bytes as a number, the highest first. -/
def hi4 (l : List Nat) (k : Nat) : Nat := l.getD k 0 * 16777216 + l.getD (k + 1) 0 * 65536 + l.getD (k + 2) 0 * 256 + l.getD (k + 3) 0
/-- The bytes between the head and the sum. -/
def body (l : List Nat) : List Nat := (l.drop 8).take (l.length - 12)

set_option maxRecDepth 20000 in
set_option maxHeartbeats 4000000 in
theorem said_c (W : World) (v : Value) (l : List Nat) (h : Sl W v l) (h4 : 12 ≤ l.length) (hl : l.length ≤ 100000) :
    Calls Try.prog 25 #[v] W fun e w' => ∃ v', e = .returned (fr (l.getD 2 0 : Nat) (l.getD 3 0 : Nat) (hi4 l 4 : Nat) v') ∧ Ow W.heap.size w' v' (body l) ∧ G0 W w' := by
  obtain ⟨a, cap, rfl, h1, h2, h3⟩ := h.sv
  obtain ⟨b, off, rfl, h5⟩ := h3 (List.ne_nil_of_length_pos (by omega))
  have hb := h.byte
  obtain ⟨n, hn⟩ : ∃ n, l.length = n + 12 := ⟨l.length - 12, by omega⟩
  have c2 := h5 2 (by omega)
  have c3 := h5 3 (by omega)
  have c4 := h5 4 (by omega)
  have c5 := h5 5 (by omega)
  have c6 := h5 6 (by omega)
  have c7 := h5 7 (by omega)
  have x2 := getD_lt hb 2
  have x3 := getD_lt hb 3
  have x4 := getD_lt hb 4
  have x5 := getD_lt hb 5
  have x6 := getD_lt hb 6
  have x7 := getD_lt hb 7
  have hsub := h.sub 8 (n + 8) (by omega) (by omega)
  rw [Nat.add_sub_cancel] at hsub
  rw [hi4, body]
  rw [hn] at h1 hl ⊢
  rw [show n + 12 - 12 = n by omega]
  generalize (l.drop 8).take n = L at *
  generalize l.getD 2 0 = y2 at *
  generalize l.getD 3 0 = y3 at *
  generalize l.getD 4 0 = y4 at *
  generalize l.getD (4 + 1) 0 = y5 at *
  generalize l.getD (4 + 2) 0 = y6 at *
  generalize l.getD (4 + 3) 0 = y7 at *
  clear h h3 h5 hb h4 hn
  have hnI : (n : Int) ≤ 100000 := by omega
  have hcn : ¬ cap = 8 := by omega
  have b2 : (2 : Int) < (n : Int) + 12 := by omega
  have b3 : (3 : Int) < (n : Int) + 12 := by omega
  have b4 : (4 : Int) < (n : Int) + 12 := by omega
  have b5 : (5 : Int) < (n : Int) + 12 := by omega
  have b6 : (6 : Int) < (n : Int) + 12 := by omega
  have b7 : (7 : Int) < (n : Int) + 12 := by omega
  have s1 : (n : Int) + 12 - 4 = (n : Int) + 8 := by omega
  have s2 : (8 : Int) ≤ (n : Int) + 8 := by omega
  have s3 : (n : Int) + 8 ≤ (cap : Int) := by omega
  have s4 : 0 ≤ (n : Int) + 8 := by omega
  have s5 : (8 : Int) ≤ max ((n : Int) + 8) 0 := by omega
  have s6 : ((n : Int) + 8).toNat - 8 = n := by omega
  have v1 : IntKind.i64.wrap ((n : Int) + 8) = (n : Int) + 8 := by rw [IntKind.wrap_i64]; omega
  have v2 : wrap64 ((n : Int) + 8) = (n : Int) + 8 := by rw [← IntWalk.i64_left]; exact v1
  have v3 : IntKind.i64.wrap ((n : Int) + 12 - 4) = (n : Int) + 8 := by rw [s1]; exact v1
  have v4 : wrap64 ((n : Int) + 12 - 4) = (n : Int) + 8 := by rw [← IntWalk.i64_left]; exact v3
  obtain ⟨r, hr⟩ : ∃ r, r = y4 * 16777216 + y5 * 65536 + y6 * 256 + y7 := ⟨_, rfl⟩
  rw [← hr]
  rw [← or_bytes' y4 y5 y6 y7 x4 x5 x6 x7] at hr
  obtain ⟨z1, e1, l1⟩ : ∃ z, y4 * 16777216 ||| y5 * 65536 = z ∧ z < 2 ^ 32 := ⟨_, rfl, Nat.or_lt_two_pow (by omega) (by omega)⟩
  obtain ⟨z2, e2, l2⟩ : ∃ z, z1 ||| y6 * 256 = z ∧ z < 2 ^ 32 := ⟨_, rfl, Nat.or_lt_two_pow (by omega) (by omega)⟩
  rw [e1, e2] at hr
  have o1 : bits .or .u32 ((y4 : Int) * 16777216) ((y5 : Int) * 65536) = (z1 : Int) := by rw [← e1]; exact u32_or_nat (y4 * 16777216) (y5 * 65536) (by omega) (by omega)
  have o2 : bits .or .u32 (z1 : Int) ((y6 : Int) * 256) = (z2 : Int) := by rw [← e2]; exact u32_or_nat z1 (y6 * 256) (by omega) (by omega)
  have o3 : bits .or .u32 (z2 : Int) (y7 : Int) = (r : Int) := by rw [hr]; exact u32_or_nat z2 y7 (by omega) (by omega)
  clear e1 e2 hr l1 l2
  have a2 : IntKind.i64.wrap (y2 : Int) = y2 := by rw [IntKind.wrap_i64]; omega
  have a3 : IntKind.i64.wrap (y3 : Int) = y3 := by rw [IntKind.wrap_i64]; omega
  have a4 : IntKind.u32.wrap (y4 : Int) = y4 := by rw [IntKind.wrap_u32']; omega
  have a5 : IntKind.u32.wrap (y5 : Int) = y5 := by rw [IntKind.wrap_u32']; omega
  have a6 : IntKind.u32.wrap (y6 : Int) = y6 := by rw [IntKind.wrap_u32']; omega
  have a7 : IntKind.u32.wrap (y7 : Int) = y7 := by rw [IntKind.wrap_u32']; omega
  have m4 : IntKind.u32.wrap ((y4 : Int) * 16777216) = (y4 : Int) * 16777216 := by rw [IntKind.wrap_u32']; omega
  have m5 : IntKind.u32.wrap ((y5 : Int) * 65536) = (y5 : Int) * 65536 := by rw [IntKind.wrap_u32']; omega
  have m6 : IntKind.u32.wrap ((y6 : Int) * 256) = (y6 : Int) * 256 := by rw [IntKind.wrap_u32']; omega
  go_enter Try.func25, Try.ntmps25
  go_wp2_with fail
  generalize hW0 : W.alloc _ = W0
  have g0 : G0 W W0 := hW0 ▸ Gr.alloc _ _ _
  have hbW : b < W.heap.size := World.block_lt_of_cell? W _ c2
  have d2 := (World.cell?_of_block (a := ⟨b, off + 2, none⟩) (g0.block b hbW (fun e => e))).trans c2
  replace c2 := Lib.hid c2
  have d3 := (World.cell?_of_block (a := ⟨b, off + 3, none⟩) (g0.block b hbW (fun e => e))).trans c3
  replace c3 := Lib.hid c3
  have d4 := (World.cell?_of_block (a := ⟨b, off + 4, none⟩) (g0.block b hbW (fun e => e))).trans c4
  replace c4 := Lib.hid c4
  have d5 := (World.cell?_of_block (a := ⟨b, off + 5, none⟩) (g0.block b hbW (fun e => e))).trans c5
  replace c5 := Lib.hid c5
  have d6 := (World.cell?_of_block (a := ⟨b, off + 6, none⟩) (g0.block b hbW (fun e => e))).trans c6
  replace c6 := Lib.hid c6
  have d7 := (World.cell?_of_block (a := ⟨b, off + 7, none⟩) (g0.block b hbW (fun e => e))).trans c7
  replace c7 := Lib.hid c7
  have hB : W0.heap[W.heap.size]? = some (.cells #[.int .i64 0, .int .i64 0, .int .u32 0, .slice none 0 0] 28 (0, 0)) := hW0 ▸ heap_alloc_new W _
  have hBlt : W.heap.size < W0.heap.size := by rw [← hW0]; simp
  clear hW0
  have hne : W.heap.size ≠ b := by omega
  go_region_held3 (fun w' => w'.cell? ⟨b, off + 2, none⟩ = some (.int .u8 (y2 : Int)) ∧ w'.cell? ⟨b, off + 3, none⟩ = some (.int .u8 (y3 : Int)) ∧ w'.cell? ⟨b, off + 4, none⟩ = some (.int .u8 (y4 : Int)) ∧ w'.cell? ⟨b, off + 5, none⟩ = some (.int .u8 (y5 : Int)) ∧ w'.cell? ⟨b, off + 6, none⟩ = some (.int .u8 (y6 : Int)) ∧ w'.cell? ⟨b, off + 7, none⟩ = some (.int .u8 (y7 : Int))) (go_keep)
    (first | (go_at_call 27; refine (clone_c _ _ L ?_).mono ?_; exact hsub.g0 (g0.trans (Gr.drew _ _)); rintro e w1 ⟨v', rfl, ho, hg⟩; obtain ⟨a', c', rfl⟩ := ho.sv; have gg := (g0.trans (Gr.drew _ _)).trans hg; have hB1 := six_cells (hg.block _ hBlt (fun e => e)) hB; have k2 := (World.cell?_of_block (a := ⟨b, off + 2, none⟩) (gg.block b hbW (fun e => e))).trans c2.out; have k3 := (World.cell?_of_block (a := ⟨b, off + 3, none⟩) (gg.block b hbW (fun e => e))).trans c3.out; have k4 := (World.cell?_of_block (a := ⟨b, off + 4, none⟩) (gg.block b hbW (fun e => e))).trans c4.out; have k5 := (World.cell?_of_block (a := ⟨b, off + 5, none⟩) (gg.block b hbW (fun e => e))).trans c5.out; have k6 := (World.cell?_of_block (a := ⟨b, off + 6, none⟩) (gg.block b hbW (fun e => e))).trans c6.out; have k7 := (World.cell?_of_block (a := ⟨b, off + 7, none⟩) (gg.block b hbW (fun e => e))).trans c7.out))
  have hb4 := set4 ((hg.block _ hBlt (fun e => e)).trans hB) (.int .i64 y2) (.int .i64 y3) (.int .u32 r) (.slice a' L.length c')
  have hg4 : Gr (fun k => k = W.heap.size) w1 _ := gr4 w1 W.heap.size (.int .i64 y2) (.int .i64 y3) (.int .u32 r) (.slice a' L.length c')
  generalize (((w1.setCell ⟨W.heap.size, 0, none⟩ (.int .i64 y2)).setCell ⟨W.heap.size, 1, none⟩ (.int .i64 y3)).setCell ⟨W.heap.size, 2, none⟩ (.int .u32 r)).setCell ⟨W.heap.size, 3, none⟩ (.slice a' L.length c') = wf at *
  obtain ⟨p0, p1, p2, p3⟩ := fr_cells hb4
  go_wp2
  refine bodyPost_ret (v := fr y2 y3 r (.slice a' L.length c')) (by simp [results, Try.results25, go_sem, p0, p1, p2, p3]) rfl ⟨_, rfl, ?_, ?_⟩
  · exact (ho.gr hg4 (fun k hk _ e => by simp at hk; omega)).mono (by simp; omega)
  · exact gg.trans' hg4 (fun i hi e => by omega)
end Go.Proofs.Ytnaapgjjombdpaa
