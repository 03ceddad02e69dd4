/-
  Carried over from another seat of ours (QY).
-/
import Derived.Test.YtfamepdghememaaQX
import Derived.Laws.IdiomStrings
set_option linter.unusedVariables false
set_option linter.unusedSimpArgs false
namespace Go.Proofs.Ytfamepdghememaa
open Go.RowKit Go.Maps Go.WideMaps
variable {S S' : Nat → Prop} {W W1 W' : World}
theorem list_lf (W : World) (N : Nat) (l : List Lf) (hn : l.length ≤ 256) (a : Option Addr) (c : Nat) (vs : List Value) (h : W.ownsRow N 31 9 (.slice a l.length c) l.length (vs.flatMap cellsOf)) (hr : Reps (fun k => k < W.heap.size) W (leafs l) vs) :
    Calls Try.prog 9 #[.slice a l.length c] W fun e w' => ∃ v', e = .returned v' ∧ Rep (fun k => W.heap.size ≤ k) w' (.mk { k := 7 } [] (leafs l)) v' ∧ Gr (fun _ => False) W w' := by
  have hl : (leafs l).length = l.length := by simp
  have hrow : RowT (fun k => k < W.heap.size) W vs (leafs l).length (.slice a (leafs l).length c) := by
    rw [hl]
    rcases h.2 with ⟨e, h0⟩ | ⟨g, cap, cur, e, hg, h2, h3, _, _, h6⟩
    · exact .inl ⟨h0, a, c, by rw [h0]⟩
    · exact .inr ⟨g, cap, cur, e, (Array.getElem?_eq_some_iff.1 h2).1, h2, h3, h6⟩
  have := list_t (fun k => k < W.heap.size) W (leafs l) a c vs hrow hr (fun _ h => h) (thinT_leaves 7 l hn) (hgtT_leaves 7 l hn) (okT_leaves 7 l hn) _ (goT_leaves 7 l)
  rw [hl] at this
  exact this
theorem list_n (W : World) (N n : Nat) (hn : n ≤ 200) (a : Option Addr) (c : Nat) (h : W.ownsRow N 31 9 (.slice a n c) n ((rN n).flatMap cellsOf)) :
    Calls Try.prog 9 #[.slice a n c] W fun e w' => ∃ v', e = .returned v' ∧ Rep (fun k => W.heap.size ≤ k) w' (.mk { k := 7 } [] ((nmN n).map vr)) v' ∧ Gr (fun _ => False) W w' := by
  have hl : ((nmN n).map fun s => ({ k := 9, s := s } : Lf)).length = n := by simp [nmN]
  have e : leafs ((nmN n).map fun s => ({ k := 9, s := s } : Lf)) = (nmN n).map vr := by simp [leafs]
  have := list_lf W N ((nmN n).map fun s => ({ k := 9, s := s } : Lf)) (by rw [hl]; omega) a c (rN n) (by rw [hl]; exact h) (by rw [e]; exact rN_reps _ _ n)
  rw [hl, e] at this
  exact this
theorem list_z (W : World) (N n : Nat) (hn : n ≤ 200) (a : Option Addr) (c : Nat) (h : W.ownsRow N 31 9 (.slice a n c) n ((rZ n).flatMap cellsOf)) :
    Calls Try.prog 9 #[.slice a n c] W fun e w' => ∃ v', e = .returned v' ∧ Rep (fun k => W.heap.size ≤ k) w' (.mk { k := 7 } [] ((nmZ n).map it)) v' ∧ Gr (fun _ => False) W w' := by
  have hl : ((nmZ n).map fun z => ({ k := 1, n := z } : Lf)).length = n := by simp [nmZ]
  have e : leafs ((nmZ n).map fun z => ({ k := 1, n := z } : Lf)) = (nmZ n).map it := by simp [leafs]
  have := list_lf W N ((nmZ n).map fun z => ({ k := 1, n := z } : Lf)) (by rw [hl]; omega) a c (rZ n) (by rw [hl]; exact h) (by rw [e]; exact rZ_reps _ _ n)
  rw [hl, e] at this
  exact this
theorem mm_none (W : World) (n : Nat) (hn : n ≤ 200) (pv tv : Value) (hp : Rep (fun k => k < W.heap.size) W (.mk { k := 7 } [] ((nmN n).map vr)) pv) (ht : Rep (fun k => k < W.heap.size) W (.mk { k := 7 } [] ((nmZ n).map it)) tv) :
    Calls Try.prog 8 #[pv, tv, .slice none 0 0] W fun e w' => ((64 < n ∧ e = .returned (.tuple #[.slice none 0 0, .bool false, .int .i64 52])) ∨ (n ≤ 64 ∧ ∃ v bv, e = .returned (.tuple #[v, .bool true, .int .i64 0]) ∧ w'.ownsRow W.heap.size 36 10 v n (bv.flatMap cellsOf) ∧ Bds (nmB n) bv)) ∧ Gr (fun _ => False) W w' := by
  have := mm_c (fun k => k < W.heap.size) W n hn pv tv hp ht (fun _ h => h) none 0 0 [] (kl_nil W) (by decide) (fun _ => none) (fun _ _ => rfl) (fun s v h => by cases h) (fun s v h => by cases h) (fun w g => mo_none w none 0)
  simpa using this
theorem mm_one (W : World) (n : Nat) (hn : n ≤ 200) (pv tv : Value) (hp : Rep (fun k => k < W.heap.size) W (.mk { k := 7 } [] ((nmN n).map vr)) pv) (ht : Rep (fun k => k < W.heap.size) W (.mk { k := 7 } [] ((nmZ n).map it)) tv) (kb : Nat) (hB : Bd W kb 0 sK { k := 3, s := sk } none 0 none 0) :
    Calls Try.prog 8 #[pv, tv, .slice (some ⟨kb, 0, none⟩) 1 1] W fun e w' => ((64 < 1 + n ∧ e = .returned (.tuple #[.slice none 0 0, .bool false, .int .i64 52])) ∨ (1 + n ≤ 64 ∧ ∃ v bv, e = .returned (.tuple #[v, .bool true, .int .i64 0]) ∧ w'.ownsRow W.heap.size 36 10 v (1 + n) (bv.flatMap cellsOf) ∧ Bds ((sK, { k := 3, s := sk }) :: nmB n) bv)) ∧ Gr (fun _ => False) W w' := by
  refine mm_c (fun k => k < W.heap.size) W n hn pv tv hp ht (fun _ h => h) (some ⟨kb, 0, none⟩) kb 1 [(sK, { k := 3, s := sk })] ⟨fun _ => ⟨rfl, by simp⟩, fun j s t h => ?_⟩ (by simp) (one sK (lv { k := 3, s := sk } none 0 none 0)) (fun s hs => ?_) (fun s v h => ?_) (fun s v h => ?_) (fun w g => mo_one w kb 1 (by omega) sK vK (by decide) { k := 3, s := sk } atom_k none 0 none 0 (hB.g g (fun e => e)))
  · match j, h with
    | 0, h => cases h; exact ⟨⟨none, 0, none, 0, hB⟩, by decide, by decide, atom_k, by decide⟩
    | j + 1, h => simp at h
  · obtain ⟨i, hi, rfl⟩ := nmN_mem hs
    exact ins_other _ _ (nm_ne i)
  · by_cases e : s = sK
    · subst e; decide
    · rw [show one sK (lv { k := 3, s := sk } none 0 none 0) s = none from ins_other _ _ e] at h; cases h
  · by_cases e : s = sK
    · subst e; rw [show one sK (lv { k := 3, s := sk } none 0 none 0) sK = some _ from ins_same _ _ _] at h; cases h; exact ⟨_, _, _, _, _, rfl⟩
    · rw [show one sK (lv { k := 3, s := sk } none 0 none 0) s = none from ins_other _ _ e] at h; cases h
theorem u8_of (x : Nat) (h : x < 256) : ((UInt8.ofNat x).toNat : Int) = (x : Int) := by
  rw [UInt8.toNat_ofNat_of_lt' (by simpa [UInt8.size] using h)]
/-- A name's two letters. -/
theorem conv_nm (w : World) (j : Nat) (hj : j ≤ 200) : ∃ sJ : ByteArray, (convert 29 9 (.slice (some ⟨w.heap.size, 0, none⟩) 2 2)).run Try.prog (w.alloc (.cells #[.int .u8 (97 + (j : Int) % 26), .int .u8 (97 + (j : Int) / 26)] 5)) = .ok (.string sJ) (w.alloc (.cells #[.int .u8 (97 + (j : Int) % 26), .int .u8 (97 + (j : Int) / 26)] 5)) ∧ (⟨#[86]⟩ : ByteArray) ++ sJ = nmS j ∧ sJ.size = 2 := by
  refine ⟨⟨#[UInt8.ofNat (97 + j % 26), UInt8.ofNat (97 + j / 26)]⟩, ?_, rfl, rfl⟩
  refine run_convert_bytes_back (P := Try.prog) _ 29 9 5 ⟨w.heap.size, 0, none⟩ 2 [UInt8.ofNat (97 + j % 26), UInt8.ofNat (97 + j / 26)] Try.underlying29 Try.underlying5 Try.underlying9 (fun q hq => ?_)
  have hb := heap_alloc_new w (.cells #[.int .u8 (97 + (j : Int) % 26), .int .u8 (97 + (j : Int) / 26)] 5)
  match q, hq with
  | 0, _ =>
    rw [Addr.add_lit, Nat.zero_add]
    simp only [World.cell?, hb]
    simp only [List.getElem_cons_zero, u8_of _ (show 97 + j % 26 < 256 by omega)]
    simp
  | 1, _ =>
    rw [Addr.add_lit, Nat.zero_add]
    simp only [World.cell?, hb]
    simp only [List.getElem_cons_zero, List.getElem_cons_succ, u8_of _ (show 97 + j / 26 < 256 by omega)]
    simp
set_option maxRecDepth 20000 in
set_option maxHeartbeats 3200000 in
theorem law_c (W : World) (z : Int) (known : Bool) : Calls Try.prog 3 #[.int .i64 z, .bool known] W fun e w' => e = .returned (.bool true) ∧ Gr (fun _ => False) W w' := by
  go_enter Try.func3, Try.ntmps3
  go_wp2_with fail
  refine (alive_c _).mono ?_
  rintro e w1 ⟨rfl, g1⟩
  by_cases h0 : z < 0
  · have d0 : decide (z < 0) = true := by simpa using h0
    go_wp2_with fail
    go_ret
    exact ⟨rfl, g1⟩
  have d0 : decide (z < 0) = false := by simpa using h0
  by_cases h2 : 200 < z
  · have d2 : decide (200 < z) = true := by simpa using h2
    go_wp2_with fail
    go_ret
    exact ⟨rfl, g1⟩
  have d2 : decide (200 < z) = false := by simpa using h2
  obtain ⟨n, rfl⟩ : ∃ n : Nat, z = (n : Int) := ⟨z.toNat, by omega⟩
  have hn : n ≤ 200 := by omega
  clear h0 h2
  have G1 := Lib.hid g1
  clear g1
  have hnI : (n : Int) ≤ 200 := by omega
  have hn0 : (0 : Int) ≤ (n : Int) := by omega
  have Hn := Lib.hid hn
  clear hn
  go_wp2_with fail
  go_loopw [5, 6, 7] (fun u v i wr => ∃ j : Nat, i = .int .i64 (j : Int) ∧ Hid (j ≤ n) ∧ Hid (wr.ownsRow w1.heap.size 31 9 u j ((rN j).flatMap cellsOf)) ∧ Hid (wr.ownsRow w1.heap.size 31 9 v j ((rZ j).flatMap cellsOf)) ∧ Hid (∀ k, u.ownBlock = some k → v.ownBlock ≠ some k) ∧ Hid (Gr (fun i => w1.heap.size ≤ i) w1 wr)) (fun _ _ i _ => n - (intOf i).toNat)
  case atStart => exact ⟨0, rfl, Lib.hid (Nat.zero_le _), Lib.hid (World.ownsRow_nil _ _ _ _), Lib.hid (World.ownsRow_nil _ _ _ _), Lib.hid (fun k h => by cases h), Lib.hid (Gr.refl _ _)⟩
  case round =>
    obtain ⟨j, rfl, hj, hO, hP, hE, hG⟩ := hrel
    have hjI : (j : Int) ≤ 200 := by have := hj.out; omega
    have hj0 : (0 : Int) ≤ (j : Int) := by omega
    obtain ⟨au, cu, rfl⟩ := ownsRow_sv hO.out
    obtain ⟨av, cv, rfl⟩ := ownsRow_sv hP.out
    rcases Nat.lt_or_ge j n with hz | hz
    · have hzI : (j : Int) < (n : Int) := by omega
      have hzN : decide (j < n) = true := by simp; omega
      have Hz := Lib.hid hz
      clear hz
      obtain ⟨sJ, hconv, hsJ, hsz⟩ := conv_nm wr j (by have := hj.out; have := Hn.out; omega)
      have HsJ := Lib.hid hsJ
      clear hsJ
      go_wp2_with fail
      clear hconv
      refine (v_c _ _).mono ?_
      rintro e w2 ⟨rfl, g2⟩
      have G2 : Hid (Gr (fun _ => False) wr w2) := Lib.hid ((Gr.alloc wr _ _).trans g2)
      have O2 := Lib.hid (ownsRow_gr hO.out G2.out (fun _ _ e => e))
      have P2 := Lib.hid (ownsRow_gr hP.out G2.out (fun _ _ e => e))
      clear g2 hO hP
      go_wp2_with (first
        | (at_builtin; refine wpList_lf _ rfl _ _ rfl w1.heap.size j w2.heap.size (.slice au j cu) ((rN j).flatMap cellsOf) { k := 9, s := nmS j } rfl rfl (O2.out.alloc _) (by rw [← HsJ.out]; exact heap_alloc_new w2 _) (by have := hj.out; have := Hn.out; omega) (by rw [World.size_alloc]; have := G2.out.size; have := hG.out.size; omega) ?_; intro u' w3 h1 h2 h3))
      have G3 : Hid (Gr (fun i => w1.heap.size ≤ i) w1 w3) := Lib.hid ((hG.out.trans ((G2.out.trans (Gr.alloc w2 _ _)).mono (fun _ _ e => e.elim))).trans (Gr.of_grown h2 (fun k e => (ownsRow_lt O2.out k e).1)))
      have O3 := Lib.hid h1
      have P3 : Hid (w3.ownsRow w1.heap.size 31 9 (.slice av j cv) j ((rZ j).flatMap cellsOf)) := Lib.hid (ownsRow_of_block P2.out (fun k _ hk2 => (h2.block k (by rw [World.size_alloc]; have := (ownsRow_lt P2.out k hk2).2; omega) (fun e => hE.out k e.symm hk2)).trans (heap_alloc_old w2 _ (ownsRow_lt P2.out k hk2).2)))
      have E3 : Hid (∀ k, u'.ownBlock = some k → (Value.slice av j cv).ownBlock ≠ some k) := Lib.hid (fun k hk1' hk2' => by
        rcases h3 with h3 | h3
        · exact hE.out k (h3 ▸ hk1') hk2'
        · rw [h3] at hk1'
          cases hk1'
          have := (ownsRow_lt P2.out _ hk2').2
          rw [World.size_alloc] at this
          omega)
      obtain ⟨bu, du, rfl⟩ := ownsRow_sv h1
      clear h1 h2 h3 O2 P2 hE hG
      refine (int_c _ _).mono ?_
      rintro e w4 ⟨rfl, g4⟩
      have G4 := Lib.hid g4
      have O4 := Lib.hid (ownsRow_gr O3.out g4 (fun _ _ e => e))
      have P4 := Lib.hid (ownsRow_gr P3.out g4 (fun _ _ e => e))
      clear g4 O3 P3
      go_wp2_with (first
        | (at_builtin; refine wpList_lf _ rfl _ _ rfl w1.heap.size j w4.heap.size (.slice av j cv) ((rZ j).flatMap cellsOf) { k := 1, n := (j : Int) } rfl rfl (P4.out.alloc _) (heap_alloc_new w4 _) (by have := hj.out; have := Hn.out; omega) (by rw [World.size_alloc]; have := G4.out.size; have := G3.out.size; omega) ?_; intro v' w5 h1 h2 h3))
      refine ⟨⟨j + 1, by simp, Lib.hid Hz.out, Lib.hid ?_, Lib.hid (by rw [rZ_succ]; exact h1), Lib.hid (fun k hk1' hk2' => ?_), Lib.hid ((G3.out.trans ((G4.out.trans (Gr.alloc w4 _ _)).mono (fun _ _ e => e.elim))).trans (Gr.of_grown h2 (fun k e => (ownsRow_lt P4.out k e).1)))⟩, ?_⟩
      · rw [rN_succ]
        exact ownsRow_of_block O4.out (fun k _ hk2 => (h2.block k (by rw [World.size_alloc]; have := (ownsRow_lt O4.out k hk2).2; omega) (fun e => E3.out k hk2 e.symm)).trans (heap_alloc_old w4 _ (ownsRow_lt O4.out k hk2).2))
      · rcases h3 with h3 | h3
        · exact E3.out k hk1' (h3 ▸ hk2')
        · rw [h3] at hk2'
          cases hk2'
          have := (ownsRow_lt O4.out _ hk1').2
          rw [World.size_alloc] at this
          omega
      · simp [intOf]; have := Hz.out; omega
    · have hzI : decide ((j : Int) < (n : Int)) = false := by simp; omega
      have hzN : decide (j < n) = false := by simp; omega
      have ej : j = n := by have := hj.out; omega
      subst ej
      clear hz
      have GW : Hid (Gr (fun _ => False) W wr) := Lib.hid (G1.out.trans' hG.out (fun i hi e => by have := G1.out.size; omega))
      cases known
      · go_wp2_with fail
        refine (list_n wr w1.heap.size j Hn.out au cu hO.out).mono ?_
        rintro e w5 ⟨pv, rfl, hr5, g5⟩
        have R5 := Lib.hid hr5
        have G5 := Lib.hid g5
        clear hr5 g5
        go_wp2_with fail
        refine (list_z w5 w1.heap.size j Hn.out av cv (ownsRow_gr hP.out G5.out (fun _ _ e => e))).mono ?_
        rintro e w6 ⟨tv, rfl, hr6, g6⟩
        have R6 := Lib.hid hr6
        have G6 := Lib.hid g6
        have G56 := Lib.hid (G5.out.trans g6)
        clear hr6 g6
        go_wp2_with fail
        refine (mm_none w6 j Hn.out pv tv (R5.out.turn (fun k hk hlt => ⟨Nat.lt_of_lt_of_le hlt G6.out.size, G6.out.block k hlt (fun e => e)⟩)) (R6.out.turn (fun k hk hlt => ⟨hlt, rfl⟩))).mono ?_
        rintro e w7 ⟨⟨h64, rfl⟩ | ⟨h64, v, bv, rfl, hrow, hB⟩, g7⟩
        · have h6I : (64 : Int) < (j : Int) := by omega
          have h6N : decide (64 < j) = true := by simp; omega
          go_wp2_with fail
          go_ret
          exact ⟨rfl, GW.out.trans (G56.out.trans g7)⟩
        · have h6I : decide ((64 : Int) < (j : Int)) = false := by simp; omega
          have h6N : decide (64 < j) = false := by simp; omega
          have G7 := Lib.hid (G56.out.trans g7)
          obtain ⟨ab, cb, rfl⟩ := ownsRow_sv hrow
          have HR := Lib.hid hrow
          have HB := Lib.hid hB
          have H64 := Lib.hid h64
          have hj64 : (j : Int) ≤ 64 := by omega
          have O7 := Lib.hid (ownsRow_gr hO.out G7.out (fun _ _ e => e))
          clear hrow hB h64 g7 G56 G6 G5 R5 R6 hP hE hO
          go_wp2_with fail
          go_loopw [12] (fun v wx => ∃ q : Nat, v = .int .i64 (q : Int) ∧ Hid (q ≤ j) ∧ Hid (Gr (fun _ => False) w7 wx)) (fun v _ => j - (intOf v).toNat)
          case atStart => exact ⟨0, rfl, Lib.hid (Nat.zero_le _), Lib.hid (Gr.refl _ _)⟩
          case round =>
            obtain ⟨q, rfl, hq, hGx⟩ := hrel
            have hqI : (q : Int) ≤ 200 := by have := hq.out; omega
            have hq0 : (0 : Int) ≤ (q : Int) := by omega
            have Ox := ownsRow_gr O7.out hGx.out (fun _ _ e => e)
            have Rx := ownsRow_gr HR.out hGx.out (fun _ _ e => e)
            rcases Nat.lt_or_ge q j with hz | hz
            · have hzI : (q : Int) < (j : Int) := by omega
              have hzN : decide (q < j) = true := by simp; omega
              have Hz := Lib.hid hz
              obtain ⟨gu, cu', eu⟩ := row_form Ox (by omega)
              cases eu
              obtain ⟨gb, cb', eb⟩ := row_form Rx (by omega)
              cases eb
              obtain ⟨b1, d1, b2, d2, hh⟩ := bds_at HB.out q (nmS q) { k := 1, n := (q : Int) } (nmB_at hz)
              have hBd : Bd wr gb (q * 10) (nmS q) { k := 1, n := (q : Int) } b1 d1 b2 d2 := fun t u hu => (row_cell Rx (hh t u hu)).1
              obtain ⟨⟨f0, f1, f2, f3, f4, f5, f6, f7, f8, f9⟩, hlt⟩ := hBd.facts
              have hcb := (row_cell Rx (hh 0 _ rfl)).2.2
              have hnm := row_cell Ox (rN_at (i := q) 3 (.string (nmS q)) rfl j hz)
              obtain ⟨n0c, n1c, n2c⟩ := hnm
              have hcbI : (j : Int) ≤ (cb : Int) := by omega
              have hcuI : (j : Int) ≤ (cu : Int) := by omega
              clear hz hBd Ox Rx hh
              go_wp2_with fail
              go_quiet (fail)
              go_wp2_with fail
              refine ⟨⟨q + 1, by simp, Lib.hid Hz.out, Lib.hid ((hGx.out.trans (Gr.alloc wr _ _)).trans (Gr.drewN _ _ _))⟩, ?_⟩
              simp [intOf]; have := Hz.out; omega
            · have hzI : decide ((q : Int) < (j : Int)) = false := by simp; omega
              have hzN : decide (q < j) = false := by simp; omega
              clear hz Ox Rx
              go_wp2_with fail
              go_ret
              exact ⟨rfl, (GW.out.trans G7.out).trans hGx.out⟩
      · go_wp2_with fail
        refine (mkAtom_c sk _).mono ?_
        rintro e w4 ⟨rfl, g4⟩
        have hb4 := heap_alloc_new w4 (.cells #[.string sK, .int .i64 3, .int .i64 0, .complex .f64 0 0, .string sk, .int .i64 0, .int .u32 0, .int .u64 0, nl, nl] 36)
        have G4 := Lib.hid (g4.trans (Gr.alloc w4 (.cells #[.string sK, .int .i64 3, .int .i64 0, .complex .f64 0 0, .string sk, .int .i64 0, .int .u32 0, .int .u64 0, nl, nl] 36) _))
        have B4 : Hid (Bd (w4.alloc (.cells #[.string sK, .int .i64 3, .int .i64 0, .complex .f64 0 0, .string sk, .int .i64 0, .int .u32 0, .int .u64 0, nl, nl] 36)) w4.heap.size 0 sK { k := 3, s := sk } none 0 none 0) := Lib.hid (fun t u hu => by
          simp only [World.cell?, hb4, Nat.zero_add]
          simpa [cellsOf] using hu)
        clear g4 hb4
        go_wp2_with fail
        generalize World.alloc w4 _ = wy at G4 B4 ⊢
        refine (list_n wy w1.heap.size j Hn.out au cu (ownsRow_gr hO.out G4.out (fun _ _ e => e))).mono ?_
        rintro e w5 ⟨pv, rfl, hr5, g5⟩
        have R5 := Lib.hid hr5
        have G5 := Lib.hid g5
        clear hr5 g5
        go_wp2_with fail
        refine (list_z w5 w1.heap.size j Hn.out av cv (ownsRow_gr hP.out (G4.out.trans G5.out) (fun _ _ e => e))).mono ?_
        rintro e w6 ⟨tv, rfl, hr6, g6⟩
        have R6 := Lib.hid hr6
        have G6 := Lib.hid g6
        have G56 := Lib.hid (G5.out.trans g6)
        have B6 := Lib.hid (B4.out.g G56.out (fun e => e))
        clear hr6 g6
        go_wp2_with fail
        refine (mm_one w6 j Hn.out pv tv (R5.out.turn (fun k hk hlt => ⟨Nat.lt_of_lt_of_le hlt G6.out.size, G6.out.block k hlt (fun e => e)⟩)) (R6.out.turn (fun k hk hlt => ⟨hlt, rfl⟩)) w4.heap.size B6.out).mono ?_
        rintro e w7 ⟨⟨h64, rfl⟩ | ⟨h64, v, bv, rfl, hrow, hB⟩, g7⟩
        · have h6I : (64 : Int) < (j : Int) + 1 := by omega
          have h6N : decide (64 < j + 1) = true := by simp; omega
          go_wp2_with fail
          go_ret
          exact ⟨rfl, GW.out.trans (G4.out.trans (G56.out.trans g7))⟩
        · have h6I : decide ((64 : Int) < (j : Int) + 1) = false := by simp; omega
          have hne1 : ((1 : Int) + (j : Int) != (j : Int) + 1) = false := by rw [Int.add_comm]; simp
          have h6N : decide (64 < j + 1) = false := by simp; omega
          have G7 := Lib.hid (G4.out.trans (G56.out.trans g7))
          obtain ⟨ab, cb, rfl⟩ := ownsRow_sv hrow
          have HR := Lib.hid hrow
          have HB := Lib.hid hB
          have H64 := Lib.hid h64
          have hj64 : (j : Int) ≤ 64 := by omega
          have O7 := Lib.hid (ownsRow_gr hO.out G7.out (fun _ _ e => e))
          clear hrow hB h64 g7 G56 G6 G5 R5 R6 hP hE hO G4 B4 B6
          go_wp2_with fail
          go_loopw [12] (fun v wx => ∃ q : Nat, v = .int .i64 (q : Int) ∧ Hid (q ≤ j) ∧ Hid (Gr (fun _ => False) w7 wx)) (fun v _ => j - (intOf v).toNat)
          case atStart => exact ⟨0, rfl, Lib.hid (Nat.zero_le _), Lib.hid (Gr.refl _ _)⟩
          case round =>
            obtain ⟨q, rfl, hq, hGx⟩ := hrel
            have hqI : (q : Int) ≤ 200 := by have := hq.out; omega
            have hq0 : (0 : Int) ≤ (q : Int) := by omega
            have Ox := ownsRow_gr O7.out hGx.out (fun _ _ e => e)
            have Rx := ownsRow_gr HR.out hGx.out (fun _ _ e => e)
            rcases Nat.lt_or_ge q j with hz | hz
            · have hzI : (q : Int) < (j : Int) := by omega
              have hzN : decide (q < j) = true := by simp; omega
              have Hz := Lib.hid hz
              obtain ⟨gu, cu', eu⟩ := row_form Ox (by omega)
              cases eu
              obtain ⟨gb, cb', eb⟩ := row_form Rx (by omega)
              cases eb
              obtain ⟨b1, d1, b2, d2, hh⟩ := bds_at HB.out (1 + q) (nmS q) { k := 1, n := (q : Int) } (by rw [Nat.add_comm 1 q]; exact nmB_at hz)
              have hBd : Bd wr gb ((1 + q) * 10) (nmS q) { k := 1, n := (q : Int) } b1 d1 b2 d2 := fun t u hu => (row_cell Rx (hh t u hu)).1
              obtain ⟨⟨f0, f1, f2, f3, f4, f5, f6, f7, f8, f9⟩, hlt⟩ := hBd.facts
              have hcb := (row_cell Rx (hh 0 _ rfl)).2.2
              have hnm := row_cell Ox (rN_at (i := q) 3 (.string (nmS q)) rfl j hz)
              obtain ⟨n0c, n1c, n2c⟩ := hnm
              have hcbI : (1 : Int) + (j : Int) ≤ (cb : Int) := by omega
              have hcuI : (j : Int) ≤ (cu : Int) := by omega
              clear hz hBd Ox Rx hh
              go_wp2_with fail
              go_quiet (fail)
              go_wp2_with fail
              refine ⟨⟨q + 1, by simp, Lib.hid Hz.out, Lib.hid ((hGx.out.trans (Gr.alloc wr _ _)).trans (Gr.drewN _ _ _))⟩, ?_⟩
              simp [intOf]; have := Hz.out; omega
            · have hzI : decide ((q : Int) < (j : Int)) = false := by simp; omega
              have hzN : decide (q < j) = false := by simp; omega
              clear hz Ox Rx
              go_wp2_with fail
              go_ret
              exact ⟨rfl, (GW.out.trans G7.out).trans hGx.out⟩
end Go.Proofs.Ytfamepdghememaa

