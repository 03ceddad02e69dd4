/-
  The reference's texts of tokens.
-/
import Derived.Test.YtnojhboflegkdaaDoorAJ
set_option linter.unusedVariables false
set_option linter.unusedSimpArgs false
namespace Go.Proofs.YtnojhboflegkdaaDoor
open Go.RowKit Go.Maps

theorem cell_gr' {W W' : World} {g o : Nat} {u : Value} (hc : W.cell? ⟨g, o, none⟩ = some u) (gr : Gr (fun _ => False) W W') : W'.cell? ⟨g, o, none⟩ = some u := by
  have hlt := World.block_lt_of_cell? _ _ hc
  simp only [World.cell?] at hc ⊢
  rw [gr.block g hlt (fun e => e)]; exact hc
set_option maxRecDepth 20000 in
set_option maxHeartbeats 4000000 in
theorem quoter_c (W : World) (s : ByteArray) (n : Int) (sv : Value) (a : Int) (m : List Int) (hs : Sb W sv m) (hm : ∀ c ∈ m, 0 ≤ c ∧ c < 256) (hlen : m.length ≤ 70000) :
    Calls Tryd.prog 14 #[.agg #[.int .i64 4, .string s, .int .i64 n, sv, .int .i64 a]] W fun e w' => e = .returned (.string (sb (quo m))) ∧ Gr (fun _ => False) W w' := by
  obtain ⟨sa, sc, rfl, hcell⟩ := hs.sv
  have hmI : (m.length : Int) ≤ 70000 := by omega
  replace hlen := Lib.hid hlen
  replace hcell := Lib.hid hcell
  clear hs
  obtain ⟨r, hr⟩ : ∃ r, sb (quo m) = r := ⟨_, rfl⟩
  rw [hr]
  have Hr := Lib.hid hr
  clear hr
  go_enter Tryd.func14, Tryd.ntmps14
  go_wp2_with fail
  generalize hW1 : World.alloc W _ = w1
  have hbx : w1.heap[W.heap.size]? = some (.cells #[.int .i64 4, .string s, .int .i64 n, .slice sa m.length sc, .int .i64 a] 33 (0, 0)) := hW1 ▸ heap_alloc_new W _
  have hg1 : Hid (Gr (fun _ => False) W w1) := hW1 ▸ Gr.alloc W _ (fun _ => False)
  have hz1 : w1.heap.size = W.heap.size + 1 := by rw [← hW1]; simp
  clear hW1
  have hz1s : W.heap.size + 1 = w1.heap.size := hz1.symm
  rw [hz1s]
  have hbl : W.heap.size < w1.heap.size := by omega
  have hold : Hid (∀ b, b < W.heap.size → b < w1.heap.size) := Lib.hid (fun b h => by omega)
  obtain ⟨bx, hbx'⟩ : ∃ b, W.heap.size = b := ⟨_, rfl⟩
  have Hbx := Lib.hid hbx'
  rw [hbx'] at hbx hbl ⊢
  clear hz1 hz1s hbx'
  have o0 := Lib.hid (Ob.lit w1.heap.size w1 [34] (by simp) (Nat.le_refl _) #[.int .u8 34] rfl 1 rfl)
  have g0 : Hid (Gr (fun _ => False) w1 (w1.alloc (.cells #[.int .u8 34] 5))) := Gr.alloc _ _ _
  replace hbx := Lib.hid hbx
  go_loopw [3, 4] (fun b i wr => ∃ j : Nat, j ≤ m.length ∧ i = .int .i64 (j : Int) ∧ Hid (Ob w1.heap.size wr b (34 :: qbs (m.take j))) ∧ Hid (Gr (fun _ => False) w1 wr)) (fun _ i _ => m.length - (intOf i).toNat)
  case atStart => exact ⟨0, Nat.zero_le _, rfl, (by show Ob _ _ _ _; simpa [qbs] using o0.out), g0⟩
  case round =>
    obtain ⟨j, hj, rfl, Ho, hg⟩ := hrel
    clear o0 g0
    have hbxw := hg.out.keep hbx.out (fun e => e)
    have hbc : wr.cell? ⟨bx, 3, none⟩ = some (.slice sa m.length sc) := by simp [World.cell?, hbxw]
    have hblw : bx < wr.heap.size := by have := hg.out.size; omega
    clear hbxw
    by_cases hlt : j < m.length
    · obtain ⟨b, off, rfl, hbl0, hcj⟩ := hcell.out (List.ne_nil_of_length_pos (by omega))
      have hcj := hcj j hlt
      have hcw : wr.cell? ⟨b, off + j, none⟩ = some (.int .u8 (m.getD j 0)) := cell_gr' hcj (hg1.out.trans hg.out)
      have hcm := hm (m.getD j 0) (by rw [List.getD_eq_getElem?_getD, List.getElem?_eq_getElem hlt]; exact List.getElem_mem hlt)
      have htk := qbs_take m j hlt
      obtain ⟨c0, hc0⟩ : ∃ c, m.getD j 0 = c := ⟨_, rfl⟩
      rw [hc0] at hcw hcm htk
      clear hc0 hcj hbl0
      obtain ⟨x, rfl⟩ := Int.eq_ofNat_of_zero_le hcm.1
      have hxl : x < 256 := by omega
      obtain ⟨L, hL⟩ : ∃ L, 34 :: qbs (m.take j) = L := ⟨_, rfl⟩
      have hlo : Hid (L.length + 4 ≤ 1000000) := by
        have := qbs_len (m.take j)
        have := hlen.out
        show _ ≤ _
        rw [← hL, List.length_cons]
        simp only [List.length_take] at *
        omega
      have hpb : Hid (∀ t : List Int, qb x = t → 34 :: qbs (m.take (j + 1)) = L ++ t) := Lib.hid (fun t e => by rw [htk, ← hL]; show 34 :: (_ ++ qb x) = _; rw [e]; rfl)
      have ho := Ho.out
      rw [hL] at ho
      have hbw : w1.heap.size ≤ wr.heap.size := hg.out.size
      have hjI : (j : Int) < (m.length : Int) := by omega
      have hblw2 : b < wr.heap.size := World.block_lt_of_cell? _ _ hcw
      clear hL htk Ho hm hcm
      obtain ⟨ba, bc, rfl⟩ := ho.sv
      have fin : ∀ w1' : Value × World, Loc (.slice ba L.length bc) wr w1'.1 w1'.2 → Gr (fun _ => False) w1 w1'.2 := fun w1' g => hg.out.trans' (g.far ho) (fun i hi h => by omega)
      replace fin := Lib.hid fin
      by_cases h1 : x = 10 ∨ x = 9 ∨ x = 92 ∨ x = 34
      · rcases h1 with rfl | rfl | rfl | rfl
        · go_wp2_with (first
            | (at_builtin; refine wpList_ap rfl _ _ rfl w1.heap.size _ _ L [92, 110] rfl rfl (ho.g0 (Gr.alloc _ _ _)) (Ob.lit 0 wr [92, 110] (by simp) (Nat.zero_le _) #[.int .u8 92, .int .u8 110] rfl 2 rfl).sb (by have := hlo.out; simp; omega) (by simp; omega) ?_; intro v1 w5 o1 g1; have gg := Lib.hid (Loc.pre (Gr.alloc wr _ _) g1); replace o1 := Lib.hid o1; clear g1))
          exact ⟨⟨j + 1, by omega, by go_num, (by show Ob _ _ _ _; rw [hpb.out [92, 110] (by decide)]; exact o1.out), fin.out (v1, w5) gg.out⟩, by simp [intOf]; omega⟩
        · go_wp2_with (first
            | (at_builtin; refine wpList_ap rfl _ _ rfl w1.heap.size _ _ L [92, 116] rfl rfl (ho.g0 (Gr.alloc _ _ _)) (Ob.lit 0 wr [92, 116] (by simp) (Nat.zero_le _) #[.int .u8 92, .int .u8 116] rfl 2 rfl).sb (by have := hlo.out; simp; omega) (by simp; omega) ?_; intro v1 w5 o1 g1; have gg := Lib.hid (Loc.pre (Gr.alloc wr _ _) g1); replace o1 := Lib.hid o1; clear g1))
          exact ⟨⟨j + 1, by omega, by go_num, (by show Ob _ _ _ _; rw [hpb.out [92, 116] (by decide)]; exact o1.out), fin.out (v1, w5) gg.out⟩, by simp [intOf]; omega⟩
        · go_wp2_with (first
            | (at_builtin; refine wpList_ap rfl _ _ rfl w1.heap.size _ _ L [92, 92] rfl rfl (ho.g0 (Gr.alloc _ _ _)) (Ob.lit 0 wr [92, 92] (by simp) (Nat.zero_le _) #[.int .u8 92, .int .u8 92] rfl 2 rfl).sb (by have := hlo.out; simp; omega) (by simp; omega) ?_; intro v1 w5 o1 g1; have gg := Lib.hid (Loc.pre (Gr.alloc wr _ _) g1); replace o1 := Lib.hid o1; clear g1))
          exact ⟨⟨j + 1, by omega, by go_num, (by show Ob _ _ _ _; rw [hpb.out [92, 92] (by decide)]; exact o1.out), fin.out (v1, w5) gg.out⟩, by simp [intOf]; omega⟩
        · go_wp2_with (first
            | (at_builtin; refine wpList_ap rfl _ _ rfl w1.heap.size _ _ L [92, 34] rfl rfl (ho.g0 (Gr.alloc _ _ _)) (Ob.lit 0 wr [92, 34] (by simp) (Nat.zero_le _) #[.int .u8 92, .int .u8 34] rfl 2 rfl).sb (by have := hlo.out; simp; omega) (by simp; omega) ?_; intro v1 w5 o1 g1; have gg := Lib.hid (Loc.pre (Gr.alloc wr _ _) g1); replace o1 := Lib.hid o1; clear g1))
          exact ⟨⟨j + 1, by omega, by go_num, (by show Ob _ _ _ _; rw [hpb.out [92, 34] (by decide)]; exact o1.out), fin.out (v1, w5) gg.out⟩, by simp [intOf]; omega⟩
      · have q0 : ¬ (x : Int) = 10 := by omega
        have q1 : ¬ (x : Int) = 9 := by omega
        have q2 : ¬ (x : Int) = 92 := by omega
        have q3 : ¬ (x : Int) = 34 := by omega
        have p0 : ((x : Int) == 10) = false := by simpa using q0
        have p1 : ((x : Int) == 9) = false := by simpa using q1
        have p2 : ((x : Int) == 92) = false := by simpa using q2
        have p3 : ((x : Int) == 34) = false := by simpa using q3
        by_cases h2 : shw (x : Int) = true
        · have hpx : qb x = [(x : Int)] := by simp only [qb, q0, q1, q2, q3, h2, if_true, if_false]
          have hsh := fun w => between_c (x : Int) 32 126 w
          rw [btw_shw, h2] at hsh
          replace hpx := Lib.hid hpx
          clear h1 h2 q0 q1 q2 q3
          go_wp2_with (first
            | (go_at_call 26; refine (hsh _).mono ?_; rintro e w' ⟨rfl, rfl⟩)
            | (at_builtin; refine wpList_ap rfl _ _ rfl w1.heap.size _ _ L [(x : Int)] rfl rfl (ho.g0 (Gr.alloc _ _ _)) (Ob.lit 0 wr [(x : Int)] (by simp) (Nat.zero_le _) #[.int .u8 (x : Int)] rfl 1 rfl).sb (by have := hlo.out; simp; omega) (by simp; omega) ?_; intro v1 w5 o1 g1; have gg := Lib.hid (Loc.pre (Gr.alloc wr _ _) g1); replace o1 := Lib.hid o1; clear g1))
          exact ⟨⟨j + 1, by omega, by go_num, (by show Ob _ _ _ _; rw [hpb.out [(x : Int)] hpx.out]; exact o1.out), fin.out (v1, w5) gg.out⟩, by simp [intOf]; omega⟩
        · have hpx : qb x = [92, 120, (hx (x / 16) : Int), (hx (x % 16) : Int)] := by
            rw [qb, if_neg q0, if_neg q1, if_neg q2, if_neg q3, if_neg h2]; rfl
          have hsh := fun w => between_c (x : Int) 32 126 w
          rw [btw_shw, Bool.eq_false_iff.2 h2] at hsh
          replace hpx := Lib.hid hpx
          have hi1 := ixh (x / 16) (by omega)
          have hi2 := ixh (x % 16) (by omega)
          have hd1 : Int.tdiv (x : Int) 16 = ((x / 16 : Nat) : Int) := by rw [Int.tdiv_eq_ediv_of_nonneg (by omega)]; omega
          have hd2 : (x : Int) / 16 = ((x / 16 : Nat) : Int) := by omega
          have hd3 : Int.tmod (x : Int) 16 = ((x % 16 : Nat) : Int) := by rw [Int.tmod_eq_emod_of_nonneg (by omega)]; omega
          have hd4 : (x : Int) % 16 = ((x % 16 : Nat) : Int) := by omega
          have hw1 : IntKind.u8.wrap ((x / 16 : Nat) : Int) = ((x / 16 : Nat) : Int) := by rw [IntKind.wrap_u8]; omega
          have hw2 : IntKind.u8.wrap ((x % 16 : Nat) : Int) = ((x % 16 : Nat) : Int) := by rw [IntKind.wrap_u8]; omega
          have hb1 : ((x / 16 : Nat) : Int) < 16 := by omega
          have hb2 : ((x % 16 : Nat) : Int) < 16 := by omega
          generalize hx (x / 16) = y1 at *
          generalize hx (x % 16) = y2 at *
          generalize x / 16 = k1 at *
          generalize x % 16 = k2 at *
          clear h1 h2 q0 q1 q2 q3
          go_wp2_with (first
            | (go_at_call 26; refine (hsh _).mono ?_; rintro e w' ⟨rfl, rfl⟩))
          have hoD := ho.g0 ((Gr.alloc wr (.cells #[.int .u8 92, .int .u8 120, .int .u8 (y1 : Int), .int .u8 (y2 : Int)] 5) _).trans (Gr.drew _ _))
          have hlD := ((Ob.lit 0 wr [92, 120, (y1 : Int), (y2 : Int)] (by simp) (Nat.zero_le _) #[.int .u8 92, .int .u8 120, .int .u8 (y1 : Int), .int .u8 (y2 : Int)] rfl 4 rfl).g0 (Gr.drew _ _)).sb
          go_region_held3 (fun _ => True) (trivial) (first
            | (refine step_ap rfl _ _ rfl w1.heap.size (.slice ba L.length bc) _ L [92, 120, (y1 : Int), (y2 : Int)] rfl rfl hoD hlD (by have := hlo.out; simp; omega) (by simp; omega) ?_; intro v1 w5 o1 g1; have gg := Loc.pre ((Gr.alloc wr _ _).trans (Gr.drew _ _)) g1)
            | fail)
          all_goals
            go_wp2_with fail
            exact ⟨⟨j + 1, by omega, by go_num, (by show Ob _ _ _ _; rw [hpb.out _ hpx.out]; exact o1), fin.out (v1, w5) gg⟩, by simp [intOf]; omega⟩
    · obtain rfl : j = m.length := by omega
      have ho := Ho.out
      rw [List.take_length] at ho
      have hbw : w1.heap.size ≤ wr.heap.size := hg.out.size
      have hq : Hid ((34 :: qbs m) ++ [34] = quo m) := by show _ = _; rfl
      have hlo : Hid ((34 :: qbs m).length + 1 ≤ 1000000) := by
        have := qbs_len m
        have := hlen.out
        show _ ≤ _
        rw [List.length_cons]
        omega
      generalize 34 :: qbs m = L at ho hq hlo
      obtain ⟨ba, bc, rfl⟩ := ho.sv
      clear Ho
      go_wp2_with (first
            | (at_builtin; refine wpList_ap rfl _ _ rfl w1.heap.size _ _ L [34] rfl rfl (ho.g0 (Gr.alloc _ _ _)) (Ob.lit 0 wr [34] (by simp) (Nat.zero_le _) #[.int .u8 34] rfl 1 rfl).sb (by have := hlo.out; simp; omega) (by simp; omega) ?_; intro v1 w5 o1 g1; have gg := Lib.hid (Loc.pre (Gr.alloc wr _ _) g1); have hcv := conv_sb o1.sb; rw [hq.out, Hr.out] at hcv; replace o1 := Lib.hid o1; clear g1))
      go_ret
      exact ⟨rfl, hg1.out.trans (hg.out.trans' (gg.out.far ho) (fun i hi h => by omega))⟩

set_option maxRecDepth 20000 in
set_option maxHeartbeats 2000000 in
theorem spellr_c (W : World) (k : Int) (s : ByteArray) (n : Int) (sv : Value) (a : Int) (b : List Int) (hs : Sb W sv b) (hb : ∀ c ∈ b, 0 ≤ c ∧ c < 256) (hl : b.length ≤ 70000) (hn : n ≤ 9223372036854775807) :
    Calls Tryd.prog 14 #[.agg #[.int .i64 k, .string s, .int .i64 n, sv, .int .i64 a]] W fun e w' => e = .returned (.string (spV k s n b)) ∧ Gr (fun _ => False) W w' := by
  have gA := fun o : Obj => Gr.alloc W o (fun _ => False)
  replace gA := Lib.hid gA
  by_cases h4 : k = 4
  · subst h4
    rw [show spV 4 s n b = sb (quo b) from rfl]
    exact quoter_c W s n sv a b hs hb hl
  obtain ⟨sa, sc, rfl, _⟩ := hs.sv
  by_cases h1 : k = 1
  · by_cases h2 : 0 ≤ n
    · rw [show spV k s n b = sb (dd n.toNat) by rw [spV, if_pos h1, if_pos h2, sb_dd]]
      have hf := fun w => digits_r w n.toNat (by omega)
      rw [Int.toNat_of_nonneg h2] at hf
      generalize sb (dd n.toNat) = r at hf ⊢
      subst h1
      clear hn hl hb hs h4
      go_enter Tryd.func14, Tryd.ntmps14
      go_wp2_with fail
      refine (hf _).mono ?_
      rintro e w2 ⟨rfl, g2⟩
      go_wp2_with fail
      go_ret
      exact ⟨rfl, (gA.out _).trans g2⟩
    · rw [show spV k s n b = e0 by rw [spV, if_pos h1, if_neg h2]]
      have h2' : decide (0 ≤ n) = false := decide_eq_false h2
      subst h1
      clear hn hl hb hs h2 h4
      go_enter Tryd.func14, Tryd.ntmps14
      go_wp2_with fail
      go_ret
      exact ⟨rfl, gA.out _⟩
  by_cases h3 : k = 2 ∨ k = 3 ∨ k = 5 ∨ k = 6
  · rw [show spV k s n b = s by rw [spV, if_neg h1, if_pos h3]]
    clear hn hl hb hs h1 h4
    rcases h3 with rfl | rfl | rfl | rfl
    all_goals
      go_enter Tryd.func14, Tryd.ntmps14
      go_wp2_with fail
      go_ret
      exact ⟨rfl, gA.out _⟩
  · rw [show spV k s n b = e0 by rw [spV, if_neg h1, if_neg h3, if_neg h4]]
    have q1 : (k == 1) = false := by simpa using h1
    have q2 : (k == 2) = false := by simp; omega
    have q3 : (k == 3) = false := by simp; omega
    have q5 : (k == 5) = false := by simp; omega
    have q6 : (k == 6) = false := by simp; omega
    have q4 : (k == 4) = false := by simpa using h4
    clear hn hl hb hs h1 h3 h4
    go_enter Tryd.func14, Tryd.ntmps14
    go_wp2_with fail
    go_ret
    exact ⟨rfl, gA.out _⟩
end Go.Proofs.YtnojhboflegkdaaDoor
