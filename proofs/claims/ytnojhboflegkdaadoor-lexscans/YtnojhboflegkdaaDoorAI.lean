/-
  All tokens of a text, by the reference; the walk of LexScans.
-/
import Derived.Test.YtnojhboflegkdaaDoorAH
import Derived.Test.YtnojhboflegkdaaDoorY
set_option linter.unusedVariables false
set_option linter.unusedSimpArgs false
namespace Go.Proofs.YtnojhboflegkdaaDoor
open Go.RowKit Go.Maps

set_option maxRecDepth 100000 in
set_option maxHeartbeats 4000000 in
theorem scanr_c (W : World) (s : ByteArray) : Calls Tryd.prog 11 #[.string s] W fun e w' => EndS W e w' (scanV s) := by
  by_cases hlong : 16384 < s.size
  · rw [scanV, if_pos hlong]
    have hI : 16384 < (s.size : Int) := by omega
    clear hlong
    go_enter Tryd.func11, Tryd.ntmps11
    go_wp2_with fail
    go_ret3
    exact ⟨rfl, Gr.refl _ _⟩
  have hI : (s.size : Int) ≤ 16384 := by omega
  obtain ⟨r, hr⟩ : ∃ r, r = scanV s := ⟨_, rfl⟩
  rw [← hr]
  rw [scanV, if_neg hlong] at hr
  have Hr := Lib.hid hr
  have hs : Hid (s.size ≤ 16384) := Nat.not_lt.1 hlong
  clear hr hlong
  obtain ⟨i0, hi0, hz0, hz1, hz2⟩ := info_parts info33
  have hgp0 := fun w => gap_c w s 0 (by have := hs.out; omega) (Nat.zero_le _)
  go_enter Tryd.func11, Tryd.ntmps11
  go_wp2_with fail
  refine (hgp0 _).mono ?_
  rintro e w1 ⟨rfl, hg1⟩
  replace hg1 := Lib.hid hg1
  clear hgp0
  go_wp2_with fail
  go_loopw [5, 6] (fun v u wr => ∃ (ts : List Tok) (vs : List Value) (i f : Nat), Hid (s.size < f + i) ∧ Hid (i ≤ s.size) ∧ Hid (ts.length ≤ 4000) ∧ u = .int .i64 (i : Int) ∧ Hid (r = scn s f i ts) ∧ Hid (Toks wr W.heap.size v ts vs) ∧ Hid (Gr (fun _ => False) W wr)) (fun _ u _ => s.size - (intOf u).toNat)
  case atStart => exact ⟨[], [], skp s 0 false, s.size + 1, by show _ < _; omega, skp_le false (Nat.zero_le _), by show _ ≤ _; simp, rfl, Hr.out, ⟨World.ownsRow_nil _ _ _ _, trivial⟩, hg1⟩
  case round =>
    obtain ⟨ts, vs, i, f, hf, hi, hl, rfl, Hq, hT, hgr⟩ := hrel
    obtain ⟨sa, sc, rfl⟩ := ownsRow_sv hT.out.1
    obtain ⟨f, rfl⟩ : ∃ g, f = g + 1 := ⟨f - 1, by have := hf.out; have := hi.out; omega⟩
    by_cases hlt : i < s.size
    · have h1 : (i : Int) < (s.size : Int) := by omega
      by_cases hfull : ts.length = 4000
      · have e : r = .error (i, 155) := by rw [Hq.out, scn, if_pos hlt, if_pos hfull]
        have h2 : (((ts.length : Nat) : Int) == 4000) = true := by rw [hfull]; rfl
        subst e
        clear hfull
        go_wp2_with fail
        go_ret3
        exact ⟨rfl, hgr.out⟩
      · have h2 : (((ts.length : Nat) : Int) == 4000) = false := by simp; omega
        have he : Hid (r = match tokV s i with | .error c => .error (i, c) | .ok (t, j) => scn s f (skp s j false) (ts ++ [t])) := by
          show r = _
          rw [Hq.out, scn, if_pos hlt, if_neg hfull]
          rfl
        have hl2 : Hid (ts.length < 4000) := by have := hl.out; show _ < _; omega
        clear hfull
        have ht := fun w => tokr_c w s i (by have := hs.out; omega) hlt
        have hok := @tokV_ok s i
        have her := @tokV_err s i
        generalize tokV s i = q at ht he hok her
        rcases q with c | ⟨t, j⟩
        · have e : r = .error (i, c) := he.out
          subst e
          have hc := her rfl
          have h3 : (c != 0) = true := by rw [bne_iff_ne]; omega
          clear her hok hc
          go_wp2_with fail
          refine (ht wr).mono ?_
          rintro e w3 ⟨⟨q, rfl⟩, hg3⟩
          go_wp2_with fail
          go_ret3
          exact ⟨rfl, (hgr.out.trans hg3).trans (Gr.alloc _ _ _)⟩
        · obtain ⟨o1, o2, o3, o4⟩ := hok hlt rfl
          clear her hok o3 o4
          have hgp := fun w => gap_c w s j (by have := hs.out; omega) o2
          go_wp2_with fail
          refine (ht wr).mono ?_
          rintro e w3 ⟨ba, bc, rfl, hrow3, hg3⟩
          have hB3 : Bq w3 W.heap.size t (.slice ba t.b.length bc) := ⟨⟨_, _, rfl⟩, ownsRow_base hrow3 hgr.out.size⟩
          have hT3 := hT.out.gr hg3 (fun k h1 h2 => h2)
          have hsz3 : W.heap.size ≤ w3.heap.size := (hgr.out.trans hg3).size
          have G3 : Hid (Gr (fun _ => False) W w3) := hgr.out.trans hg3
          replace hT3 := Lib.hid hT3
          replace hB3 := Lib.hid hB3
          replace hsz3 := Lib.hid hsz3
          clear hrow3 hg3 hT hgr
          go_wp2_with (first
            | (at_builtin; generalize hX : World.alloc w3 _ = X; have hxs : w3.heap.size + 1 = X.heap.size := (by rw [← hX]; simp); have gX : Gr (fun _ => False) w3 X := hX ▸ Gr.alloc _ _ _; rw [hxs]; clear hX hxs; have TX := hT3.out.gr gX (fun _ _ e => e); have BX : Bq X W.heap.size t (.slice ba t.b.length bc) := ⟨hB3.out.1, ownsRow_gr hB3.out.2 gX (fun _ _ e => e)⟩; refine wpList_own _ rfl 23 _ _ rfl W.heap.size 33 i0 _ 5 64 Tryd.underlying23 hi0 hz0 hz1 hz2 rfl (by decide) (.slice sa ts.length sc) ts.length (tkcs ts vs) ⟨X.heap.size, 0, none⟩ 1 1 (tkc t (.slice ba t.b.length bc)) rfl rfl (TX.1.alloc _) rfl (cell_five_new _ _ _ _ _ _ _) (by simp [Value.oneCell']) (by unfold maxLen; have := hl2.out; omega) (by have := hl2.out; omega) (by have := hsz3.out; have := gX.size; simp; omega) ?_; intro v' w5 hrow5 hgr5)
            | fail)
          have T5 : Hid (Toks w5 W.heap.size v' (ts ++ [t]) (vs ++ [.slice ba t.b.length bc])) := (TX.gr (Gr.alloc X _ (fun _ => False)) (fun _ _ e => e)).grown ⟨BX.1, ownsRow_gr BX.2 (Gr.alloc X _ (fun _ => False)) (fun _ _ e => e)⟩ hgr5 hrow5
          have G35 : Gr (fun k => W.heap.size ≤ k) w3 w5 := ((gX.any _).trans (Gr.alloc X _ _)).trans (Gr.of_grown hgr5 (fun k e => (ownsRow_lt TX.1 k e).1))
          have G5 : Gr (fun _ => False) W w5 := G3.out.trans' G35 (fun k hk h => by omega)
          refine (hgp w5).mono ?_
          rintro e w6 ⟨rfl, hg6⟩
          have G6 := Lib.hid (G5.trans hg6)
          have T6 : Hid (Toks w6 W.heap.size v' (ts ++ [t]) (vs ++ [.slice ba t.b.length bc])) := T5.out.gr hg6 (fun k h1 h2 => h2)
          have n1 := skp_ge s j false
          have n2 := skp_le (s := s) (i := j) false o2
          have n3 : Hid (s.size < f + skp s j false) := by have := hf.out; show _ < _; omega
          have n4 : Hid ((ts ++ [t]).length ≤ 4000) := by have := hl2.out; show _ ≤ _; simp; omega
          have n5 : Hid (r = scn s f (skp s j false) (ts ++ [t])) := he.out
          clear TX BX gX hrow5 hgr5 G35 G5 hg6
          obtain ⟨q, hq⟩ : ∃ q, skp s j false = q := ⟨_, rfl⟩
          rw [hq] at n1 n2 n3 n5 ⊢
          clear hq
          go_wp2_with fail
          exact ⟨⟨ts ++ [t], vs ++ [.slice ba t.b.length bc], q, f, n3, n2, n4, rfl, n5, T6, G6⟩, by simp [intOf]; omega⟩
    · have h1 : decide ((i : Int) < (s.size : Int)) = false := by simp; omega
      have e : r = .ok ts := by rw [Hq.out, scn, if_neg hlt]
      subst e
      go_wp2_with fail
      go_ret3
      exact ⟨_, vs, rfl, hT.out, hgr.out⟩

set_option maxRecDepth 100000 in
set_option maxHeartbeats 4000000 in
theorem scans_walk (s : ByteArray) (W : World) (hE : Er W) (hS : Sg W) (hT : Tb W) : Calls Tryd.prog 3 #[.string s] W fun e w' => e = .returned (.bool true) ∧ Gr (fun _ => False) W w' := by
  have ha := alive_c W hE hS hT
  have hp := fun w (g : Gr (fun _ => False) W w) => scan_c w s (hE.gr g (fun e => e)) (hS.gr g (fun e => e))
  have hq := fun w => scanr_c w s
  cases hr : scanV s with
  | error x =>
    obtain ⟨j, c⟩ := x
    rw [hr] at hp hq
    have hall := fun w => all_same w 0 0 [] [] [] none none 0 0 ⟨World.ownsRow_nil _ _ _ _, trivial⟩ ⟨World.ownsRow_nil _ _ _ _, trivial⟩ (by simp)
    simp only [List.length_nil] at hall
    clear hr hE hS hT
    go_enter Tryd.func3, Tryd.ntmps3
    go_wp2_with fail
    refine ha.mono ?_
    rintro e w1 ⟨rfl, hg1⟩
    go_wp2_with fail
    refine (hp _ hg1).mono ?_
    rintro e w2 ⟨rfl, hg2⟩
    go_wp2_with fail
    refine (hq _).mono ?_
    rintro e w3 ⟨rfl, hg3⟩
    go_wp2_with fail
    refine (hall _).mono ?_
    rintro e w4 ⟨rfl, hg4⟩
    go_wp2_with fail
    go_ret
    exact ⟨by simp, ((hg1.trans hg2).trans hg3).trans hg4⟩
  | ok l =>
    rw [hr] at hp hq
    have hlen := scanV_len hr
    clear hr hE hS hT
    go_enter Tryd.func3, Tryd.ntmps3
    go_wp2_with fail
    refine ha.mono ?_
    rintro e w1 ⟨rfl, hg1⟩
    go_wp2_with fail
    refine (hp _ hg1).mono ?_
    rintro e w2 ⟨sv, vs, rfl, hT2, hg2⟩
    go_wp2_with fail
    refine (hq _).mono ?_
    rintro e w3 ⟨sv3, vs3, rfl, hT3, hg3⟩
    obtain ⟨a2, c2, rfl⟩ := hT2.sv
    obtain ⟨a3, c3, rfl⟩ := hT3.sv
    have hall := all_same w3 _ _ l vs vs3 a2 a3 c2 c3 (hT2.gr hg3 (fun _ _ e => e)) hT3 hlen
    clear hT2 hT3 hlen
    go_wp2_with fail
    refine hall.mono ?_
    rintro e w4 ⟨rfl, hg4⟩
    go_wp2_with fail
    go_ret
    exact ⟨by simp, ((hg1.trans hg2).trans hg3).trans hg4⟩
end Go.Proofs.YtnojhboflegkdaaDoor
