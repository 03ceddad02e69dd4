/-
  FrameOpens' walk.
-/
import Derived.Test.YtnaapgjjombdpaaY
import Derived.Test.YtnaapgjjombdpaaR
namespace Go.Proofs.Ytnaapgjjombdpaa
open Go.RowKit Go.Maps
variable {S S' : Nat → Prop} {W W1 W' : World}

theorem ropen_r (W : World) (v : Value) (l : List Nat) (h : Sl W v l) : Calls Try.prog 18 #[v] W fun e w' => EndO W l e w' := by
  by_cases h1 : l.length < 12
  · exact ropen_short W v l h h1
  by_cases h2 : 1212 < l.length
  · exact ropen_long W v l h h2
  exact ropen_main W v l h (Nat.le_of_not_lt h1) (Nat.le_of_not_lt h2)
theorem ropen_no (W : World) (v : Value) (l : List Nat) (h : Sl W v l) (c : Int) (hc : opn l = c) (h0 : c ≠ 0) : Calls Try.prog 18 #[v] W fun e w' => e = .returned (.tuple #[fr 0 0 0 (.slice none 0 0), .int .i64 c]) ∧ G0 W w' := by
  refine (ropen_r W v l h).mono ?_
  rintro e w' ⟨hg, ⟨-, rfl⟩ | ⟨h1, -⟩⟩
  · exact ⟨by rw [hc], hg⟩
  · exact absurd (hc.symm.trans h1) h0
theorem ropen_yes (W : World) (v : Value) (l : List Nat) (h : Sl W v l) (hc : opn l = 0) (f t bo : Nat) (m : List Nat) (hf : l.getD 2 0 = f) (ht : l.getD 3 0 = t) (hb : hi4 l 4 = bo) (hm : body l = m) :
    Calls Try.prog 18 #[v] W fun e w' => ∃ a cap, e = .returned (.tuple #[fr f t bo (.slice a m.length cap), .int .i64 0]) ∧ Ow W.heap.size w' (.slice a m.length cap) m ∧ G0 W w' := by
  refine (ropen_r W v l h).mono ?_
  rintro e w' ⟨hg, ⟨h1, -⟩ | ⟨-, v', rfl, ho⟩⟩
  · exact absurd hc h1
  · rw [hm] at ho
    obtain ⟨a, cap, rfl⟩ := ho.sv
    rw [hf, ht, hb]
    exact ⟨a, cap, rfl, ho, hg⟩
theorem Sl.nil (W : World) : Sl W (.slice none 0 0) [] := ⟨by simp, by simp, .inl ⟨rfl, rfl⟩⟩
theorem xor255 (x : Nat) (h : x < 256) : bits .xor .u8 (x : Int) 255 = ((x ^^^ 255 : Nat) : Int) ∧ x ^^^ 255 < 256 :=
  ⟨u8_xor_nat x 255 h (by omega), Nat.xor_lt_two_pow (n := 8) h (by omega)⟩

set_option maxRecDepth 20000 in
set_option maxHeartbeats 1000000 in
theorem opens_no (W : World) (v : Value) (l : List Nat) (h : Sl W v l) (c : Int) (hc : opn l = c) (h0 : c ≠ 0) :
    Calls Try.prog 5 #[v] W fun e W' => e = .returned (.bool true) ∧ Below W.heap.size W W' := by
  have hp := fun w v h => open_no' w v l h c hc h0
  have hr := fun w v h => ropen_no w v l h c hc h0
  have hsm := fun w => same_yes w 0 0 0 _ _ [] (Sl.nil w) (Sl.nil w)
  have hll := h.len
  have hcc : (c == c) = true := by simp
  clear hc h0
  obtain ⟨a, cap, rfl, h1, h2, -⟩ := h.sv
  have hlI : (l.length : Int) ≤ 140737488355328 := by omega
  go_enter Try.func5, Try.ntmps5
  go_wp2_with (first
    | (go_at_call 9; refine (alive_c _).mono ?_; rintro e w1 ⟨rfl, hg⟩)
    | (at_builtin; refine wpList_app _ rfl _ _ rfl w1.heap.size _ _ [] l rfl rfl (Ow.lit w1.heap.size w1 [] (by simp) (by simp) (Nat.le_refl _) _ rfl 0 rfl) ((h.g0 hg).g0 (Gr.alloc _ _ _)) (by simp; omega) (by simp) ?_; intro v' w2 hown hgrow hnil
       rw [List.nil_append] at hown
       obtain ⟨ac, cc, rfl⟩ := hown.sv))
  have hg2 : Gr (fun i => w1.heap.size ≤ i) w1 w2 := (Gr.alloc _ _ _).trans ((Ow.lit w1.heap.size w1 [] (by simp) (by simp) (Nat.le_refl _) _ rfl 0 rfl).grown hgrow)
  clear hgrow hnil
  refine (hp _ _ hown.sl).mono ?_
  rintro e w3 ⟨rfl, hg3⟩
  have hl2 := fun k e => (hown.lt k e)
  have hown3 := (hown.g0 hg3).g0 (Gr.alloc w3 (.cells #[.int .i64 0, .int .i64 0, .int .u32 0, .slice none 0 0] 28) _)
  have hg30 : G0 W (w3.alloc (.cells #[.int .i64 0, .int .i64 0, .int .u32 0, .slice none 0 0] 28)) := ((hg.new hg2 hg.size).trans hg3).trans (Gr.alloc _ _ _)
  have hZ := heap_alloc_new w3 (.cells #[.int .i64 0, .int .i64 0, .int .u32 0, .slice none 0 0] 28)
  have hZs : w3.heap.size < (w3.alloc (.cells #[.int .i64 0, .int .i64 0, .int .u32 0, .slice none 0 0] 28)).heap.size := by simp
  have hw1 : W.heap.size ≤ w1.heap.size := hg.size
  have hw3 := hg3.size
  replace hl2 := Lib.hid hl2
  replace hZ := Lib.hid hZ
  go_wp2_with fail
  go_loopw [6] (fun i wr => ∃ (j : Nat) (q : List Nat), j ≤ l.length ∧ i = .int .i64 (j : Int) ∧ q.length = l.length ∧ Ow w1.heap.size wr (.slice ac l.length cc) q ∧ Gr (fun k => (Value.slice ac l.length cc).ownBlock = some k) (w3.alloc (.cells #[.int .i64 0, .int .i64 0, .int .u32 0, .slice none 0 0] 28)) wr) (fun i _ => l.length - (intOf i).toNat)
  case atStart => exact ⟨0, l, by omega, rfl, rfl, hown3, Gr.refl _ _⟩
  case round =>
    obtain ⟨j, q, hj, rfl, hq, ho, hgr⟩ := hrel
    by_cases hj4 : j < l.length
    · obtain ⟨g, cap2, e2, hgb⟩ := ho.form (List.ne_nil_of_length_pos (by omega))
      obtain rfl : ac = some ⟨g, 0, none⟩ := by simp only [Value.slice.injEq] at e2; exact e2.1
      clear e2
      obtain ⟨cj, fj⟩ := ho.cell hq.symm (j := j) (by omega)
      have hxl := getD_lt ho.byte j
      obtain ⟨x, hx⟩ : ∃ x, q.getD j 0 = x := ⟨_, rfl⟩
      rw [hx] at cj hxl
      obtain ⟨ex, xl⟩ := xor255 x hxl
      have hst := ho.stored hq.symm j (x ^^^ 255) xl
      have hgs := hgr.trans (Gr.set (S := fun k => (Value.slice (some ⟨g, 0, none⟩) l.length cc).ownBlock = some k) wr ⟨g, j, none⟩ (.int .u8 ((x ^^^ 255 : Nat) : Int)) rfl)
      have hqq : (q.set j (x ^^^ 255)).length = l.length := by rw [List.length_set]; exact hq
      rw [← ex] at hst hgs
      replace hst := Lib.hid hst
      replace hgs := Lib.hid hgs
      replace hqq := Lib.hid hqq
      have hjI : (j : Int) < (l.length : Int) := by omega
      clear hx ex xl hq
      go_wp2_with fail
      exact ⟨⟨j + 1, q.set j (x ^^^ 255), by omega, by go_num, hqq.out, hst.out, hgs.out⟩, by simp [intOf]; omega⟩
    · obtain rfl : j = l.length := by omega
      have gW : G0 W wr := hg30.trans' hgr (fun i hi e => by have := (hl2.out i e).1; omega)
      have hB := (hgr.block w3.heap.size hZs (fun e => by have := (hl2.out _ e).2; omega)).trans hZ.out
      have hlt := Nat.lt_of_lt_of_le hZs hgr.size
      clear hl2 hZ
      go_wp2_with fail
      refine (hr _ _ (h.g0 gW)).mono ?_
      rintro e w5 ⟨rfl, hg5⟩
      have hB5 := fr_cells ((hg5.block _ hlt (fun e => e)).trans hB)
      have hlt5 := Nat.lt_of_lt_of_le hlt hg5.size
      go_wp2_with fail
      refine (hsm _).mono ?_
      rintro e w6 ⟨rfl, hg6⟩
      go_wp2_with fail
      go_ret
      exact ⟨rfl, (((gW.trans hg5).trans (Gr.alloc _ _ _)).trans hg6).below (Nat.le_refl _) (fun _ e => e.elim)⟩

set_option maxRecDepth 20000 in
set_option maxHeartbeats 1000000 in
theorem opens_yes (W : World) (v : Value) (l : List Nat) (h : Sl W v l) (hc : opn l = 0) (f t bo : Nat) (m : List Nat) (hf : l.getD 2 0 = f) (ht : l.getD 3 0 = t) (hb : hi4 l 4 = bo) (hm : body l = m) :
    Calls Try.prog 5 #[v] W fun e W' => e = .returned (.bool true) ∧ Below W.heap.size W W' := by
  have hp := fun w v h => open_yes' w v l h hc f t bo m hf ht hb hm
  have hr := fun w v h => ropen_yes w v l h hc f t bo m hf ht hb hm
  have hsm := fun w v v' h h' => same_yes w f t bo v v' m h h'
  have hll := h.len
  clear hc hf ht hb hm
  obtain ⟨a, cap, rfl, h1, h2, -⟩ := h.sv
  have hlI : (l.length : Int) ≤ 140737488355328 := by omega
  go_enter Try.func5, Try.ntmps5
  go_wp2_with (first
    | (go_at_call 9; refine (alive_c _).mono ?_; rintro e w1 ⟨rfl, hg⟩)
    | (at_builtin; refine wpList_app _ rfl _ _ rfl w1.heap.size _ _ [] l rfl rfl (Ow.lit w1.heap.size w1 [] (by simp) (by simp) (Nat.le_refl _) _ rfl 0 rfl) ((h.g0 hg).g0 (Gr.alloc _ _ _)) (by simp; omega) (by simp) ?_; intro v' w2 hown hgrow hnil
       rw [List.nil_append] at hown
       obtain ⟨ac, cc, rfl⟩ := hown.sv))
  have hg2 : Gr (fun i => w1.heap.size ≤ i) w1 w2 := (Gr.alloc _ _ _).trans ((Ow.lit w1.heap.size w1 [] (by simp) (by simp) (Nat.le_refl _) _ rfl 0 rfl).grown hgrow)
  clear hgrow hnil
  refine (hp _ _ hown.sl).mono ?_
  rintro e w3 ⟨a5, c5, rfl, ow5, hg3⟩
  have hl2 := fun k e => (hown.lt k e)
  have hown3 := (hown.g0 hg3).g0 (Gr.alloc w3 (.cells #[.int .i64 (f : Int), .int .i64 (t : Int), .int .u32 (bo : Int), .slice a5 m.length c5] 28) _)
  have hg30 : G0 W (w3.alloc (.cells #[.int .i64 (f : Int), .int .i64 (t : Int), .int .u32 (bo : Int), .slice a5 m.length c5] 28)) := ((hg.new hg2 hg.size).trans hg3).trans (Gr.alloc _ _ _)
  have hZ := heap_alloc_new w3 (.cells #[.int .i64 (f : Int), .int .i64 (t : Int), .int .u32 (bo : Int), .slice a5 m.length c5] 28)
  have hZs : w3.heap.size < (w3.alloc (.cells #[.int .i64 (f : Int), .int .i64 (t : Int), .int .u32 (bo : Int), .slice a5 m.length c5] 28)).heap.size := by simp
  have hw1 : W.heap.size ≤ w1.heap.size := hg.size
  have hw3 := hg3.size
  have ow6 := ow5.g0 (Gr.alloc w3 (.cells #[.int .i64 (f : Int), .int .i64 (t : Int), .int .u32 (bo : Int), .slice a5 m.length c5] 28) _)
  replace hl2 := Lib.hid hl2
  replace hZ := Lib.hid hZ
  go_wp2_with fail
  go_loopw [6] (fun i wr => ∃ (j : Nat) (q : List Nat), j ≤ l.length ∧ i = .int .i64 (j : Int) ∧ q.length = l.length ∧ Ow w1.heap.size wr (.slice ac l.length cc) q ∧ Gr (fun k => (Value.slice ac l.length cc).ownBlock = some k) (w3.alloc (.cells #[.int .i64 (f : Int), .int .i64 (t : Int), .int .u32 (bo : Int), .slice a5 m.length c5] 28)) wr) (fun i _ => l.length - (intOf i).toNat)
  case atStart => exact ⟨0, l, by omega, rfl, rfl, hown3, Gr.refl _ _⟩
  case round =>
    obtain ⟨j, q, hj, rfl, hq, ho, hgr⟩ := hrel
    by_cases hj4 : j < l.length
    · obtain ⟨g, cap2, e2, hgb⟩ := ho.form (List.ne_nil_of_length_pos (by omega))
      obtain rfl : ac = some ⟨g, 0, none⟩ := by simp only [Value.slice.injEq] at e2; exact e2.1
      clear e2
      obtain ⟨cj, fj⟩ := ho.cell hq.symm (j := j) (by omega)
      have hxl := getD_lt ho.byte j
      obtain ⟨x, hx⟩ : ∃ x, q.getD j 0 = x := ⟨_, rfl⟩
      rw [hx] at cj hxl
      obtain ⟨ex, xl⟩ := xor255 x hxl
      have hst := ho.stored hq.symm j (x ^^^ 255) xl
      have hgs := hgr.trans (Gr.set (S := fun k => (Value.slice (some ⟨g, 0, none⟩) l.length cc).ownBlock = some k) wr ⟨g, j, none⟩ (.int .u8 ((x ^^^ 255 : Nat) : Int)) rfl)
      have hqq : (q.set j (x ^^^ 255)).length = l.length := by rw [List.length_set]; exact hq
      rw [← ex] at hst hgs
      replace hst := Lib.hid hst
      replace hgs := Lib.hid hgs
      replace hqq := Lib.hid hqq
      have hjI : (j : Int) < (l.length : Int) := by omega
      clear hx ex xl hq
      go_wp2_with fail
      exact ⟨⟨j + 1, q.set j (x ^^^ 255), by omega, by go_num, hqq.out, hst.out, hgs.out⟩, by simp [intOf]; omega⟩
    · obtain rfl : j = l.length := by omega
      have gW : G0 W wr := hg30.trans' hgr (fun i hi e => by have := (hl2.out i e).1; omega)
      have hB := (hgr.block w3.heap.size hZs (fun e => by have := (hl2.out _ e).2; omega)).trans hZ.out
      have hlt := Nat.lt_of_lt_of_le hZs hgr.size
      have ow7 := ow6.gr hgr (fun k hk _ e => by have := (hl2.out k e).2; omega)
      clear hl2 hZ
      go_wp2_with fail
      refine (hr _ _ (h.g0 gW)).mono ?_
      rintro e w5 ⟨a8, c8, rfl, ow8, hg5⟩
      have hB5 := fr_cells ((hg5.block _ hlt (fun e => e)).trans hB)
      have hlt5 := Nat.lt_of_lt_of_le hlt hg5.size
      go_wp2_with fail
      refine (hsm _ _ _ ((ow7.g0 hg5).g0 (Gr.alloc _ _ _)).sl (ow8.g0 (Gr.alloc _ _ _)).sl).mono ?_
      rintro e w6 ⟨rfl, hg6⟩
      go_wp2_with fail
      go_ret
      exact ⟨rfl, (((gW.trans hg5).trans (Gr.alloc _ _ _)).trans hg6).below (Nat.le_refl _) (fun _ e => e.elim)⟩
end Go.Proofs.Ytnaapgjjombdpaa
