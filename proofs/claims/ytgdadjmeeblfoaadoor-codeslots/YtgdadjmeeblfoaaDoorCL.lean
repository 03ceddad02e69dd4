/-
  The chapter's examples; the law CodeSlots.
-/
import Derived.Test.YtgdadjmeeblfoaaDoorCK
set_option linter.unusedVariables false
set_option linter.unusedSimpArgs false
namespace Go.Proofs.YtgdadjmeeblfoaaDoor
open Go.RowKit Go.Maps
variable {W W' : World}
abbrev oneC : Array Value := #[.int .i64 1, .int .i64 0, .int .i64 0, .int .i64 1, .int .i64 1, .complex .f64 0 0, .string e0, .int .i64 0, .int .u32 0, .int .u64 0, nlv, nlv]
abbrev p1C : Array Value := #[.int .i64 1, .int .i64 0, .int .i64 0, .int .i64 1, .int .i64 1, .complex .f64 0 0, .string e0, .int .i64 0, .int .u32 0, .int .u64 0, nlv, nlv, .int .i64 12, .int .i64 0, .int .i64 0, .int .i64 0, .int .i64 0, .complex .f64 0 0, .string e0, .int .i64 0, .int .u32 0, .int .u64 0, nlv, nlv]
abbrev p2C : Array Value := #[.int .i64 12, .int .i64 0, .int .i64 0, .int .i64 0, .int .i64 0, .complex .f64 0 0, .string e0, .int .i64 0, .int .u32 0, .int .u64 0, nlv, nlv]
abbrev p3C : Array Value := #[.int .i64 1, .int .i64 0, .int .i64 0, .int .i64 1, .int .i64 1, .complex .f64 0 0, .string e0, .int .i64 0, .int .u32 0, .int .u64 0, nlv, nlv, .int .i64 9, .int .i64 0, .int .i64 0, .int .i64 0, .int .i64 0, .complex .f64 0 0, .string e0, .int .i64 0, .int .u32 0, .int .u64 0, nlv, nlv]
theorem one_of {b : Nat} {t : TypeId} {f : Nat × Nat} (h : W.heap[b]? = some (.cells oneC t f)) : InAt W b 0 1 1 1 := ⟨⟨cell_at h 0, cell_at h 1, cell_at h 2⟩, cell_at h 3, cell_at h 4, cell_at h 5, cell_at h 6, cell_at h 7, cell_at h 8, cell_at h 9, cell_at h 10, cell_at h 11⟩
theorem p1_of {fb b : Nat} {t : TypeId} {f : Nat × Nat} (h : W.heap[b]? = some (.cells p1C t f)) (hF : FnAt W fb b 2) (hO : Ot W) : P1 W fb b := ⟨hF, ⟨⟨cell_at h 0, cell_at h 1, cell_at h 2⟩, cell_at h 3, cell_at h 4, cell_at h 5, cell_at h 6, cell_at h 7, cell_at h 8, cell_at h 9, cell_at h 10, cell_at h 11⟩, ⟨⟨cell_at h 12, cell_at h 13, cell_at h 14⟩, cell_at h 15, cell_at h 16, cell_at h 17, cell_at h 18, cell_at h 19, cell_at h 20, cell_at h 21, cell_at h 22, cell_at h 23⟩, hO⟩
theorem p2_of {fb b : Nat} {t : TypeId} {f : Nat × Nat} (h : W.heap[b]? = some (.cells p2C t f)) (hF : FnAt W fb b 1) (hO : Ot W) : P2 W fb b := ⟨hF, ⟨⟨cell_at h 0, cell_at h 1, cell_at h 2⟩, cell_at h 3, cell_at h 4, cell_at h 5, cell_at h 6, cell_at h 7, cell_at h 8, cell_at h 9, cell_at h 10, cell_at h 11⟩, hO⟩
theorem p3_of {fb b : Nat} {t : TypeId} {f : Nat × Nat} (h : W.heap[b]? = some (.cells p3C t f)) (hF : FnAt W fb b 2) (hO : Ot W) : P3 W fb b := ⟨hF, ⟨⟨cell_at h 0, cell_at h 1, cell_at h 2⟩, cell_at h 3, cell_at h 4, cell_at h 5, cell_at h 6, cell_at h 7, cell_at h 8, cell_at h 9, cell_at h 10, cell_at h 11⟩, ⟨⟨cell_at h 12, cell_at h 13, cell_at h 14⟩, cell_at h 15, cell_at h 16, cell_at h 17, cell_at h 18, cell_at h 19, cell_at h 20, cell_at h 21, cell_at h 22, cell_at h 23⟩, hO⟩
abbrev b12 : ByteArray := { data := #[66, 49, 50] }
theorem slot12 (W : World) : Calls Tryd.prog 5 #[.string b12] W fun e w' => e = .returned (.tuple #[.int .i64 12, .bool true, .bool true]) ∧ Gr (fun _ => False) W w' := by
  refine (slot_c b12 W (by decide)).mono ?_
  rintro e w' ⟨h, g⟩
  refine ⟨?_, g⟩
  have e0' : bt b12 0 = 66 := by decide +kernel
  have e1 : bt b12 1 = 49 := by decide +kernel
  have e2 : bt b12 2 = 50 := by decide +kernel
  have es : b12.size = 3 := by decide +kernel
  have en : slN b12 = 12 := by unfold slN; rw [if_neg (by rw [es]; decide), e1, e2]; rfl
  have ok : slOk b12 := by
    unfold slOk
    rw [e0', e1, e2, es, en]
    exact ⟨⟨by decide, by decide⟩, .inr rfl, by decide, by decide, .inr (by decide), by decide⟩
  rcases h with ⟨_, h⟩ | ⟨h, _⟩
  · rw [en, e0'] at h; exact h
  · exact absurd ok h
set_option maxRecDepth 100000 in
set_option maxHeartbeats 3200000 in
theorem alive_c (W : World) (hO : Ot W) : Calls Tryd.prog 4 #[] W fun e w' => e = .returned (.bool true) ∧ Gr (fun _ => False) W w' := by
  have gA := Gr.alloc W (.cells oneC 36) (fun _ => False)
  have gB := Gr.alloc (W.alloc (.cells oneC 36)) (.cells p1C 36) (fun _ => False)
  have hz1 : (W.alloc (.cells oneC 36)).heap.size = W.heap.size + 1 := by simp
  have hone : InAt (W.alloc (.cells oneC 36)) W.heap.size 0 1 1 1 := one_of (heap_alloc_new W (.cells oneC 36))
  have b1 : ((W.alloc (.cells oneC 36)).alloc (.cells p1C 36)).heap[W.heap.size + 1]? = some (.cells p1C 36 (0, 0)) := by
    have := heap_alloc_new (W.alloc (.cells oneC 36)) (.cells p1C 36)
    rw [hz1] at this
    exact this
  have hOt := Lib.hid (fun w (gw : Gr (fun _ => False) W w) => hO.gr gw (fun e => e))
  have hon := Lib.hid (fun w (gw : Gr (fun _ => False) (W.alloc (.cells oneC 36)) w) => hone.gr gw (fun e => e))
  have hof := Lib.hid (fun w ib n => of_c w ib n)
  obtain ⟨⟨a0, a1, a2⟩, a3, a4, a5, a6, a7, a8, a9, a10, a11⟩ := hone
  replace b1 := Lib.hid b1
  replace gB := Lib.hid gB
  have hzz := Lib.hid hz1
  obtain ⟨ob, hob⟩ : ∃ ob, W.heap.size = ob := ⟨_, rfl⟩
  have gAh := Lib.hid gA
  clear hO hz1 gA
  rw [hob] at hzz a0 a1 a2 a3 a4 a5 a6 a7 a8 a9 a10 a11 b1
  go_enter Tryd.func4, Tryd.ntmps4
  go_wp2_with fail
  replace hob := Lib.hid hob
  refine (hof.out _ _ _).mono ?_
  rintro e w1 ⟨fb1, rfl, hF1, g1⟩
  have G1 : Gr (fun _ => False) (W.alloc (.cells oneC 36)) w1 := gB.out.trans g1
  have hck1 := Lib.hid (checkP1 w1 fb1 _ (p1_of (g1.keep b1.out (fun e => e)) hF1 (hOt.out _ (gAh.out.trans G1))))
  clear hF1 g1 a0 a1 a2 a3 a4 a5 a6 a7 a8 a9 a10 a11
  replace G1 := Lib.hid G1
  go_wp2_with fail
  refine hck1.out.mono ?_
  rintro e w2 ⟨rfl, g2⟩
  replace g2 := Lib.hid (G1.out.trans g2)
  clear hck1 G1
  have c2 := Gr.alloc w2 (.cells p2C 36) (fun _ => False)
  have d2 := heap_alloc_new w2 (.cells p2C 36)
  replace c2 := Lib.hid c2
  replace d2 := Lib.hid d2
  go_wp2_with fail
  refine (hof.out _ _ _).mono ?_
  rintro e w3 ⟨fb3, rfl, hF3, g3⟩
  have G3 : Gr (fun _ => False) (W.alloc (.cells oneC 36)) w3 := g2.out.trans (c2.out.trans g3)
  have hck3 := Lib.hid (checkP2 w3 fb3 _ (p2_of (g3.keep d2.out (fun e => e)) hF3 (hOt.out _ (gAh.out.trans G3))))
  clear hF3 g3
  replace G3 := Lib.hid G3
  go_wp2_with fail
  refine hck3.out.mono ?_
  rintro e w4 ⟨rfl, g4⟩
  replace g4 := Lib.hid (G3.out.trans g4)
  clear hck3 G3 c2 d2 g2
  obtain ⟨⟨a0, a1, a2⟩, a3, a4, a5, a6, a7, a8, a9, a10, a11⟩ := hon.out w4 g4.out
  have hol : ob < w4.heap.size := by have := g4.out.size; have := hzz.out; omega
  have c4 := Lib.hid (Gr.alloc w4 (.cells p3C 36) (fun _ => False))
  have d4 := Lib.hid (heap_alloc_new w4 (.cells p3C 36))
  rw [hob.out] at a0 a1 a2 a3 a4 a5 a6 a7 a8 a9 a10 a11
  go_wp2_with fail
  refine (hof.out _ _ _).mono ?_
  rintro e w5 ⟨fb5, rfl, hF5, g5⟩
  have G5 : Gr (fun _ => False) (W.alloc (.cells oneC 36)) w5 := g4.out.trans (c4.out.trans g5)
  have hck5 := Lib.hid (checkP3 w5 fb5 _ (p3_of (g5.keep d4.out (fun e => e)) hF5 (hOt.out _ (gAh.out.trans G5))))
  clear hF5 g5 a0 a1 a2 a3 a4 a5 a6 a7 a8 a9 a10 a11
  replace G5 := Lib.hid G5
  go_wp2_with fail
  refine hck5.out.mono ?_
  rintro e w6 ⟨rfl, g6⟩
  replace g6 := Lib.hid (G5.out.trans g6)
  clear hck5 G5 c4 d4 g4 hol
  obtain ⟨⟨a0, a1, a2⟩, a3, a4, a5, a6, a7, a8, a9, a10, a11⟩ := hon.out w6 g6.out
  have hol : ob < w6.heap.size := by have := g6.out.size; have := hzz.out; omega
  have c6 := Lib.hid (Gr.alloc w6 (.cells p1C 36) (fun _ => False))
  have d6 := Lib.hid (heap_alloc_new w6 (.cells p1C 36))
  rw [hob.out] at a0 a1 a2 a3 a4 a5 a6 a7 a8 a9 a10 a11
  go_wp2_with fail
  refine (hof.out _ _ _).mono ?_
  rintro e w7 ⟨fb7, rfl, hF7, g7⟩
  have G7 : Gr (fun _ => False) (W.alloc (.cells oneC 36)) w7 := g6.out.trans (c6.out.trans g7)
  have hhe := Lib.hid (heightsP1 w7 fb7 _ (p1_of (g7.keep d6.out (fun e => e)) hF7 (hOt.out _ (gAh.out.trans G7))))
  clear hF7 g7 a0 a1 a2 a3 a4 a5 a6 a7 a8 a9 a10 a11
  replace G7 := Lib.hid G7
  go_wp2_with fail
  refine hhe.out.mono ?_
  rintro e w8 ⟨hb, rfl, hh8, g8⟩
  replace g8 := Lib.hid (G7.out.trans g8)
  clear hhe G7 c6 d6 g6 hol
  go_wp2_with fail
  refine (slot12 w8).mono ?_
  rintro e w9 ⟨rfl, g9⟩
  have hh9 := cell_gr hh8 g9 (fun e => e)
  have hbl : hb < w9.heap.size := World.block_lt_of_cell? _ _ hh9
  have G9 := Lib.hid (g8.out.trans g9)
  clear hh8 g9 g8
  obtain ⟨⟨a0, a1, a2⟩, a3, a4, a5, a6, a7, a8, a9, a10, a11⟩ := hon.out w9 G9.out
  have hol : ob < w9.heap.size := by have := G9.out.size; have := hzz.out; omega
  have c9 := Lib.hid (Gr.alloc w9 (.cells oneC 36) (fun _ => False))
  have d9 := Lib.hid (heap_alloc_new w9 (.cells oneC 36))
  rw [hob.out] at a0 a1 a2 a3 a4 a5 a6 a7 a8 a9 a10 a11
  go_wp2_with fail
  refine (hof.out _ _ _).mono ?_
  rintro e w10 ⟨fb10, rfl, hF10, g10⟩
  have hfi := Lib.hid (find_c w10 fb10 _ 1 hF10)
  have G10 : Gr (fun _ => False) W w10 := gAh.out.trans (G9.out.trans (c9.out.trans g10))
  clear hF10 g10 a0 a1 a2 a3 a4 a5 a6 a7 a8 a9 a10 a11 c9 d9
  go_wp2_with fail
  refine hfi.out.mono ?_
  rintro e w11 ⟨rfl, rfl⟩
  go_wp2_with fail
  go_ret
  exact ⟨rfl, G10⟩
set_option maxRecDepth 100000 in
set_option maxHeartbeats 1600000 in
theorem slots_c (W : World) (s : ByteArray) (hs : s.size ≤ 9223372036854775807) (hO : Ot W) : Calls Tryd.prog 3 #[.string s] W fun e w' => e = .returned (.bool true) ∧ Gr (fun _ => False) W w' := by
  have hal := Lib.hid (alive_c W hO)
  have h1 := Lib.hid (fun w => slot_c s w hs)
  have h2 := Lib.hid (fun w => rslot_c s w hs)
  clear hO
  go_enter Tryd.func3, Tryd.ntmps3
  go_wp2_with fail
  refine hal.out.mono ?_
  rintro e w1 ⟨rfl, g1⟩
  go_wp2_with fail
  refine (h1.out w1).mono ?_
  rintro e w2 ⟨he, g2⟩
  replace g2 := g1.trans g2
  have he2 := Lib.hid he
  rcases he with ⟨ok, rfl⟩ | ⟨no, rfl⟩
  · replace ok := Lib.hid ok
    go_wp2_with fail
    refine (h2.out w2).mono ?_
    rintro e w3 ⟨he3, g3⟩
    rcases he3 with ⟨_, rfl⟩ | ⟨no, _⟩
    · generalize slN s = n
      generalize (bt s 0 == 66) = b
      clear he2
      go_wp2_with fail
      go_ret
      exact ⟨by simp, g2.trans g3⟩
    · exact absurd ok.out no
  · replace no := Lib.hid no
    go_wp2_with fail
    refine (h2.out w2).mono ?_
    rintro e w3 ⟨he3, g3⟩
    rcases he3 with ⟨ok, _⟩ | ⟨_, rfl⟩
    · exact absurd ok no.out
    · clear he2
      go_wp2_with fail
      go_ret
      exact ⟨rfl, g2.trans g3⟩
end Go.Proofs.YtgdadjmeeblfoaaDoor
