/-
  The law's walk.
-/
import Derived.Test.YticgnaikbmnagaaZK
import Derived.Deep.OwnRows
set_option linter.unusedVariables false
set_option linter.unusedSimpArgs false
namespace Go.Proofs.Yticgnaikbmnagaa
open Go.RowKit Go.Maps
attribute [local go_sem] Oper.semAt_some
variable {S S' : Nat → Prop} {W W1 W' : World}
theorem info4 : (Try.prog.info? 4).map (fun i => (i.zero, i.size, i.bytes)) = some (some (.bool false), 1, 1) := by kernel_rfl
/-- The bytes that were handed in. -/
structure Sk (W : World) (a : Option Addr) (m c : Nat) (xs : List Int) : Prop where
  len : xs.length = m
  cap : m ≤ c
  top : m ≤ maxLen
  at_ : ∀ (j : Nat) (x : Int), xs[j]? = some x → 0 ≤ x ∧ x < 256 ∧ ∃ b o, a = some ⟨b, o, none⟩ ∧ W.cell? ⟨b, o + j, none⟩ = some (.int .u8 x)
/-- The row of what is gone. -/
def Gone (W : World) (gb n : Nat) (gs : List Bool) : Prop := W.heap[gb]? = some (.cells (gs.map Value.bool).toArray 4 (0, 0)) ∧ gs.length = n
theorem Gone.bo {W0 : World} {gb n b p : Nat} {gs : List Bool} {l : List Int} (h : Gone W gb n gs) (hB : Bo W0 W b l p) (g : Gr (Mx W b) W W') : Gone W' gb n gs := by
  refine ⟨g.keep h.1 (fun e => ?_), h.2⟩
  rcases hB.mb.typed e with e | ⟨cs, e⟩
  · subst e
    obtain ⟨⟨v, vs, k1, _⟩, _⟩ := hB.mb
    rw [h.1] at k1
    have := congrArg (fun o => match o with | some (Obj.cells _ t _) => t | _ => 0) k1
    simp at this
  · rw [h.1] at e
    have := congrArg (fun o => match o with | some (Obj.cells _ t _) => t | _ => 0) e
    simp at this
theorem Gone.g0 {gb n : Nat} {gs : List Bool} (h : Gone W gb n gs) (g : Gr (fun _ => False) W W') : Gone W' gb n gs := ⟨g.keep h.1 (fun e => e), h.2⟩
theorem gone_made {gb n base : Nat} (h : W.ownsRow base 4 1 (.slice (some ⟨gb, 0, none⟩) n n) n (madeCells (Value.bool false).cells (n * 1)).toList) : Gone W gb n (List.replicate n false) := by
  refine ⟨?_, by simp⟩
  rcases h.2 with ⟨e, _⟩ | ⟨g', cap, cur, e, _, k1, _, _, k2, k3⟩
  · cases e
  · cases e
    rw [k1]
    rw [show (Value.bool false).cells = #[Value.bool false] from rfl, toList_madeCells_one, List.take_of_length_le (by rw [Array.length_toList, k2]; omega), Nat.mul_one] at k3
    have : cur = ((List.replicate n false).map Value.bool).toArray := by
      apply Array.ext'
      rw [k3, List.toList_toArray, List.map_replicate]
    rw [this]
theorem Gone.cell {gb n i : Nat} {gs : List Bool} {x : Bool} (h : Gone W gb n gs) (hx : gs[i]? = some x) : W.cell? ⟨gb, i, none⟩ = some (.bool x) ∧ (∀ o, W.frozen? ⟨gb, o, none⟩ = false) ∧ gb < W.heap.size := by
  refine ⟨?_, fun o => by simp [World.frozen?, h.1], (Array.getElem?_eq_some_iff.1 h.1).1⟩
  simp only [World.cell?, h.1]
  simp [hx]
theorem Gone.set {gb n i : Nat} {gs : List Bool} (h : Gone W gb n gs) : Gone (W.setCell ⟨gb, i, none⟩ (.bool true)) gb n (gs.set i true) := by
  refine ⟨?_, by rw [List.length_set]; exact h.2⟩
  rw [heap_setCell_same W gb i _ 4 _ h.1]
  simp [List.map_set]
theorem Bo.gone {W0 : World} {gb b p n i : Nat} {l : List Int} {gs : List Bool} (h : Bo W0 W b l p) (hg : Gone W gb n gs) (hW : W0.heap.size ≤ gb) : Bo W0 (W.setCell ⟨gb, i, none⟩ (.bool true)) b l p := by
  have g : Gr (fun k => k = gb) W (W.setCell ⟨gb, i, none⟩ (.bool true)) := Gr.set _ _ _ rfl
  have hne : ∀ k, Mx W b k → ¬ k = gb := fun k hk e => by
    subst e
    rcases h.mb.typed hk with e | ⟨cs, e⟩
    · subst e
      obtain ⟨⟨v, vs, k1, _⟩, _⟩ := h.mb
      rw [hg.1] at k1
      have := congrArg (fun o => match o with | some (Obj.cells _ t _) => t | _ => 0) k1
      simp at this
    · rw [hg.1] at e
      have := congrArg (fun o => match o with | some (Obj.cells _ t _) => t | _ => 0) e
      simp at this
  obtain ⟨m1, m2⟩ := h.mb.gr2 g hne
  exact ⟨m1, h.hb, fun k hk => h.rows k (m2 k hk), h.gr.trans' g (fun k hk e => by omega)⟩
def zs (n : Nat) : List Int := (List.range n).map fun i : Nat => (i : Int)
theorem zs_succ (n : Nat) : zs (n + 1) = zs n ++ [(n : Int)] := by simp [zs, List.range_succ]
theorem zs_len (n : Nat) : (zs n).length = n := by simp [zs]
theorem inR_nat {i : Nat} (h : i < 256) : inR (i : Int) = true := by simp [inR]; omega
set_option maxRecDepth 20000 in
set_option maxHeartbeats 6400000 in
theorem law_c (W : World) (n : Nat) (hn : n ≤ 255) (a : Option Addr) (m c : Nat) (xs : List Int) (hS : Sk W a m c xs) : Calls Try.prog 3 #[.int .u8 (n : Int), .slice a m c] W fun e w' => e = .returned (.bool true) ∧ Gr (fun _ => False) W w' := by
  have HS := Lib.hid hS
  have hnI : (n : Int) ≤ 255 := by omega
  have hn0 : (0 : Int) ≤ (n : Int) := by omega
  have Hn := Lib.hid hn
  have hmT : (m : Int) ≤ 9223372036854775807 := by have := hS.top; unfold maxLen at this; omega
  have hm0 : (0 : Int) ≤ (m : Int) := by omega
  clear hS hn
  go_enter Try.func3, Try.ntmps3
  go_wp2_with fail
  refine (alive_c _).mono ?_
  rintro e w0 ⟨rfl, g0⟩
  have G0 := Lib.hid g0
  clear g0
  go_wp2_with fail
  refine (new_c _).mono ?_
  rintro e w1 ⟨rfl, m1, g1, x1⟩
  have B1 := Lib.hid (Bo.new G0.out m1 g1 x1)
  obtain ⟨b, hb⟩ : ∃ b, w0.heap.size = b := ⟨_, rfl⟩
  rw [hb] at B1 ⊢
  clear m1 g1 x1 hb G0
  go_wp2_with fail
  go_loopw [6] (fun u wr => ∃ j : Nat, u = .int .i64 (j : Int) ∧ Hid (j ≤ n) ∧ Hid (Bo W wr b (zs j) 0)) (fun u _ => n - (intOf u).toNat)
  case atStart => exact ⟨0, rfl, Lib.hid (Nat.zero_le _), B1⟩
  case round =>
    obtain ⟨j, rfl, hj, hB⟩ := hrel
    clear B1
    have hjI : (j : Int) ≤ 255 := by have := hj.out; have := Hn.out; omega
    have hj0 : (0 : Int) ≤ (j : Int) := by omega
    rcases Nat.lt_or_ge j n with hz1' | hz1'
    · have hzI : (j : Int) < (n : Int) := by omega
      have Hz1 := Lib.hid hz1'
      clear hz1'
      go_wp2_with fail
      refine (number_c _ _).mono ?_
      rintro e w2 ⟨rfl, g2⟩
      have B2 := Lib.hid (hB.out.g0 g2)
      clear hB g2
      go_wp2_with fail
      refine (put_c w2 b _ 0 B2.out.mb (by rw [zs_len]; have := Hz1.out; have := Hn.out; omega) (j : Int) (inR_nat (by have := Hz1.out; have := Hn.out; omega)) _ _ _ _).mono ?_
      rintro e w3 ⟨rfl, m3, g3, x3⟩
      have B3 := Lib.hid (B2.out.to m3 g3 x3)
      clear B2 m3 g3 x3
      go_wp2_with fail
      refine ⟨⟨j + 1, by simp, Lib.hid Hz1.out, Lib.hid (by rw [zs_succ]; exact B3.out)⟩, ?_⟩
      simp [intOf]; have := Hz1.out; omega
    · have hzI : decide ((j : Int) < (n : Int)) = false := by simp; omega
      have ej : j = n := by have := hj.out; omega
      subst ej
      clear hz1'
      obtain ⟨i0, hi0, hz0, hz1, hz2⟩ := info_parts info4
      obtain ⟨w2, hmk, hown, hgr⟩ := run_makeSlice_full (P := Try.prog) wr wr.heap.size 37 4 i0 _ 1 Try.underlying37 hi0 hz0 hz1 .i64 .i64 j (by have := Hn.out; omega) (by rw [hz2]; have := Hn.out; omega) (by unfold maxLen; have := Hn.out; omega) (Nat.le_refl _)
      have g2 : Gr (fun _ => False) wr w2 := Gr.of_grown hgr (fun k e => by cases e)
      have GN2 := Lib.hid (gone_made hown)
      have B2 : Hid (Bo W w2 b (left (List.replicate j false) j) 0) := Lib.hid (by rw [left_all]; exact hB.out.g0 g2)
      have hgW : Hid (W.heap.size ≤ wr.heap.size) := Lib.hid hB.out.gr.size
      obtain ⟨gb, hgb⟩ : ∃ gb, wr.heap.size = gb := ⟨_, rfl⟩
      rw [hgb] at hmk GN2 hgW
      clear hown hgr g2 hB hgb
      go_wp2_with fail
      clear hmk
      go_loopw [8] (fun u wx => ∃ (i : Nat) (gs : List Bool), u = .int .i64 (i : Int) ∧ Hid (i ≤ 300) ∧ Hid (Bo W wx b (left gs j) 0) ∧ Hid (Gone wx gb j gs)) (fun u _ => 300 - (intOf u).toNat)
      case atStart => exact ⟨0, _, rfl, Lib.hid (Nat.zero_le _), B2, GN2⟩
      case round =>
        obtain ⟨i, gs, rfl, hi, hB, hG⟩ := hrel
        clear B2 GN2
        have hiI : (i : Int) ≤ 300 := by have := hi.out; omega
        have hi0 : (0 : Int) ≤ (i : Int) := by omega
        by_cases hgo : i < m ∧ i < 300
        · obtain ⟨hgo1, hgo2⟩ := hgo
          have hmI : (i : Int) < (m : Int) := by omega
          have hmN : decide (i < m) = true := by simp; omega
          have h3I : (i : Int) < 300 := by omega
          have h3N : decide (i < 300) = true := by simp; omega
          have Hgo := Lib.hid hgo2
          obtain ⟨x, hx⟩ : ∃ x, xs[i]? = some x := ⟨_, List.getElem?_eq_getElem (by rw [HS.out.len]; exact hgo1)⟩
          obtain ⟨hx0, hx1, sb, so, rfl, hsc⟩ := HS.out.at_ i x hx
          have Hsc := Lib.hid hsc
          have hsW : Hid (sb < W.heap.size) := Lib.hid (World.block_lt_of_cell? W _ hsc)
          have hcI : (m : Int) ≤ (c : Int) := by have := HS.out.cap; omega
          clear hgo1 hgo2 hx hsc
          go_wp2_with fail
          go_loopw [9] (fun u wy => ∃ (k p : Nat), u = .int .i64 (k : Int) ∧ Hid ((k : Int) ≤ x) ∧ Hid (p ≤ (left gs j).length) ∧ Hid (Bo W wy b (left gs j) p) ∧ Hid (Gone wy gb j gs)) (fun u _ => (x - intOf u).toNat)
          case atStart => exact ⟨0, 0, rfl, Lib.hid (by simpa using hx0), Lib.hid (Nat.zero_le _), hB, hG⟩
          case round =>
            obtain ⟨k, p, rfl, hk, hp, hB, hG⟩ := hrel
            have hsy : wr.cell? ⟨sb, so + i, none⟩ = some (.int .u8 x) := by
              rw [World.cell?_of_block (w' := wr) (w := W) (a := ⟨sb, so + i, none⟩) (hB.out.gr.block sb hsW.out (fun e => e))]; exact Hsc.out
            have hk0 : (0 : Int) ≤ (k : Int) := by omega
            have hkI := hk.out
            by_cases hkx : (k : Int) < x
            · have hkN : decide ((k : Int) < x) = true := by simpa using hkx
              have Hkx := Lib.hid hkx
              by_cases hpl : p < (left gs j).length
              · have hnx := Lib.hid (next_some wr b _ p _ hB.out.mb (by have := left_le gs j; have := Hn.out; omega) (List.getElem?_eq_getElem hpl))
                have Hpl := Lib.hid hpl
                clear hpl
                go_wp2_with fail
                refine hnx.out.mono ?_
                rintro e w3 ⟨rfl, m3, g3, x3⟩
                have B3 := Lib.hid (hB.out.to' m3 g3 x3)
                have G3 := Lib.hid (hG.out.bo hB.out (g3.mono (fun _ _ e => .inl e)))
                clear hnx m3 g3 x3
                go_wp2_with fail
                refine ⟨⟨k + 1, p + 1, by simp, Lib.hid (by have := Hkx.out; omega), Lib.hid (by have := Hpl.out; omega), B3, G3⟩, ?_⟩
                simp [intOf]; have := Hkx.out; omega
              · have hpe : p = (left gs j).length := by have := hp.out; omega
                have hnx := Lib.hid (next_none wr b _ (hpe ▸ hB.out.mb) (by have := left_le gs j; have := Hn.out; omega))
                clear hpl hpe
                go_wp2_with fail
                refine hnx.out.mono ?_
                rintro e w3 ⟨rfl, g3⟩
                have B3 := Lib.hid (hB.out.g0 g3)
                have G3 := Lib.hid (hG.out.g0 g3)
                clear hnx g3
                go_wp2_with fail
                refine ⟨⟨k + 1, p, by simp, Lib.hid (by have := Hkx.out; omega), hp, B3, G3⟩, ?_⟩
                simp [intOf]; have := Hkx.out; omega
            · have hkN : decide ((k : Int) < x) = false := by simpa using hkx
              clear hkx hkI
              by_cases hpl : p < (left gs j).length
              · obtain ⟨z, hz⟩ : ∃ z, (left gs j)[p]? = some z := ⟨_, List.getElem?_eq_getElem hpl⟩
                have htk := Lib.hid (take_some wr b _ p z hB.out.mb (by have := left_le gs j; have := Hn.out; omega) hz)
                obtain ⟨q, rfl, hqj, hgq, hset⟩ := left_take hG.out.2 hz
                have Hgq := Lib.hid hgq
                have Hset := Lib.hid hset
                have Hq := Lib.hid hqj
                have hq0 : (0 : Int) ≤ (q : Int) := by omega
                have hqI : (q : Int) < (j : Int) := by omega
                have hqN : decide (q < j) = true := by simp; omega
                have hqz : decide ((q : Int) < 0) = false := by simp
                clear hpl hz hgq hset hqj
                go_wp2_with fail
                refine htk.out.mono ?_
                rintro e w3 ⟨⟨a1, c1, a2, c2, rfl⟩, m3, g3, x3⟩
                have B3 := Lib.hid (hB.out.to m3 g3 (fun i hi => .inl (x3 i hi)))
                have G3 := Lib.hid (hG.out.bo hB.out g3)
                clear htk m3 g3 x3
                obtain ⟨y1, yf, yl⟩ := G3.out.cell Hgq.out
                have B4 := Lib.hid ((B3.out.gone (i := q) G3.out hgW.out).g0 (Gr.alloc _ (ob (q : Int) a1 c1 a2 c2) _))
                have G4 := Lib.hid ((G3.out.set (i := q)).g0 (Gr.alloc _ (ob (q : Int) a1 c1 a2 c2) _))
                go_wp2_with fail
                refine ⟨⟨i + 1, gs.set q true, by simp, Lib.hid Hgo.out, Lib.hid (by rw [Hset.out]; exact B4.out), G4⟩, ?_⟩
                simp [intOf]; have := Hgo.out; omega
              · have hpe : p = (left gs j).length := by have := hp.out; omega
                subst hpe
                have htk := Lib.hid (take_none wr b _ hB.out.mb (by have := left_le gs j; have := Hn.out; omega))
                clear hpl
                go_wp2_with fail
                refine htk.out.mono ?_
                rintro e w3 ⟨rfl, g3⟩
                have B3 := Lib.hid ((hB.out.g0 g3).g0 (Gr.alloc w3 oz9 _))
                have G3 := Lib.hid ((hG.out.g0 g3).g0 (Gr.alloc w3 oz9 _))
                clear htk g3
                go_wp2_with fail
                refine (again_c _ _ _ _ B3.out.mb).mono ?_
                rintro e w4 ⟨⟨v4, rfl⟩, m4, g4, x4⟩
                have B4 := Lib.hid (B3.out.to' m4 g4 x4)
                have G4 := Lib.hid (G3.out.bo B3.out (g4.mono (fun _ _ e => .inl e)))
                clear m4 g4 x4
                go_wp2_with fail
                refine ⟨⟨i + 1, gs, by simp, Lib.hid Hgo.out, B4, G4⟩, ?_⟩
                simp [intOf]; have := Hgo.out; omega
        · by_cases h1 : i < m
          · have hmI : (i : Int) < (m : Int) := by omega
            have hmN : decide (i < m) = true := by simp; omega
            have h3N : decide (i < 300) = false := by simp; omega
            have h3I : decide ((i : Int) < 300) = false := by simp; omega
            clear h1 hgo
            go_wp2_with fail
            refine (all_c _ b _ 0 hB.out.mb (by have := left_le gs j; have := Hn.out; omega) (fun z hz => by
              obtain ⟨q, rfl, hq, -⟩ := left_mem hz
              exact inR_nat (by have := Hn.out; omega))).mono ?_
            rintro e w5 ⟨⟨v, vs, rfl, o5, i5⟩, g5⟩
            obtain ⟨av, cv, rfl⟩ := ownsRow_sv o5
            have O5 := Lib.hid o5
            have I5 := Lib.hid i5
            have B5 := Lib.hid (hB.out.g0 g5)
            have G5 := Lib.hid (hG.out.g0 g5)
            clear o5 i5 g5 hB hG
            have hl0 : left gs 0 = [] := rfl
            go_wp2_with fail
            go_loopw [14, 13] (fun u v wr => ∃ q : Nat, u = .int .i64 (q : Int) ∧ v = .int .i64 ((left gs q).length : Int) ∧ Hid (q ≤ j) ∧ wr = w5) (fun u _ _ => j - (intOf u).toNat)
            case atStart => exact ⟨0, rfl, rfl, Lib.hid (Nat.zero_le _), rfl⟩
            case round =>
              obtain ⟨q, rfl, rfl, hq, rfl⟩ := hrel
              have hq0 : (0 : Int) ≤ (q : Int) := by omega
              have hlq := left_le gs q
              have hlI : ((left gs q).length : Int) ≤ 255 := by have := hq.out; have := Hn.out; omega
              have hl00 : (0 : Int) ≤ ((left gs q).length : Int) := by omega
              by_cases hqj : q < j
              · have hqI : (q : Int) < (j : Int) := by omega
                have hqN : decide (q < j) = true := by simp; omega
                have Hqj := Lib.hid hqj
                obtain ⟨x, hx⟩ : ∃ x, gs[q]? = some x := ⟨_, List.getElem?_eq_getElem (by rw [G5.out.2]; exact hqj)⟩
                obtain ⟨y1, yf, yl⟩ := G5.out.cell hx
                have hs := left_succ gs q
                cases x with
                | true =>
                  rw [if_neg (by rw [List.getD_eq_getElem?_getD, hx]; simp), Nat.add_zero] at hs
                  have Hs := Lib.hid hs
                  clear hx hs hqj hlq
                  go_wp2_with fail
                  refine ⟨⟨q + 1, by simp, by rw [Hs.out]; simp, Lib.hid Hqj.out, trivial⟩, ?_⟩
                  simp [intOf]; have := Hqj.out; omega
                | false =>
                  have hgd : gs.getD q false = false := by rw [List.getD_eq_getElem?_getD, hx]; rfl
                  rw [if_pos hgd] at hs
                  have hat := left_at hgd hqj
                  have hlt := (List.getElem?_eq_some_iff.1 hat).1
                  have hltI : ((left gs q).length : Int) < ((left gs j).length : Int) := by omega
                  have hltN : decide ((left gs q).length < (left gs j).length) = true := by simp; omega
                  obtain ⟨rg, rc, er⟩ := row_form O5.out (by omega)
                  cases er
                  obtain ⟨a1, d1, a2, d2, hc⟩ := I5.out.at_ hat
                  obtain ⟨z1, z2, z3⟩ := row_cell O5.out (hc 1 _ rfl)
                  have hcI : ((left gs j).length : Int) ≤ (cv : Int) := by omega
                  have Hs := Lib.hid hs
                  clear hx hs hqj hlq hat hlt hgd hc
                  go_wp2_with fail
                  refine ⟨⟨q + 1, by simp, by rw [Hs.out]; simp, Lib.hid Hqj.out, trivial⟩, ?_⟩
                  simp [intOf]; have := Hqj.out; omega
              · have ej : q = j := by have := hq.out; omega
                subst ej
                clear hqj hlq
                have hqN : decide ((q : Int) < (q : Int)) = false := by simp
                go_wp2_with fail
                go_ret
                exact ⟨rfl, B5.out.gr⟩
          · have hmN : decide (i < m) = false := by simp; omega
            have hmI : decide ((i : Int) < (m : Int)) = false := by simp; omega
            clear h1 hgo
            go_wp2_with fail
            refine (all_c _ b _ 0 hB.out.mb (by have := left_le gs j; have := Hn.out; omega) (fun z hz => by
              obtain ⟨q, rfl, hq, -⟩ := left_mem hz
              exact inR_nat (by have := Hn.out; omega))).mono ?_
            rintro e w5 ⟨⟨v, vs, rfl, o5, i5⟩, g5⟩
            obtain ⟨av, cv, rfl⟩ := ownsRow_sv o5
            have O5 := Lib.hid o5
            have I5 := Lib.hid i5
            have B5 := Lib.hid (hB.out.g0 g5)
            have G5 := Lib.hid (hG.out.g0 g5)
            clear o5 i5 g5 hB hG
            have hl0 : left gs 0 = [] := rfl
            go_wp2_with fail
            go_loopw [14, 13] (fun u v wr => ∃ q : Nat, u = .int .i64 (q : Int) ∧ v = .int .i64 ((left gs q).length : Int) ∧ Hid (q ≤ j) ∧ wr = w5) (fun u _ _ => j - (intOf u).toNat)
            case atStart => exact ⟨0, rfl, rfl, Lib.hid (Nat.zero_le _), rfl⟩
            case round =>
              obtain ⟨q, rfl, rfl, hq, rfl⟩ := hrel
              have hq0 : (0 : Int) ≤ (q : Int) := by omega
              have hlq := left_le gs q
              have hlI : ((left gs q).length : Int) ≤ 255 := by have := hq.out; have := Hn.out; omega
              have hl00 : (0 : Int) ≤ ((left gs q).length : Int) := by omega
              by_cases hqj : q < j
              · have hqI : (q : Int) < (j : Int) := by omega
                have hqN : decide (q < j) = true := by simp; omega
                have Hqj := Lib.hid hqj
                obtain ⟨x, hx⟩ : ∃ x, gs[q]? = some x := ⟨_, List.getElem?_eq_getElem (by rw [G5.out.2]; exact hqj)⟩
                obtain ⟨y1, yf, yl⟩ := G5.out.cell hx
                have hs := left_succ gs q
                cases x with
                | true =>
                  rw [if_neg (by rw [List.getD_eq_getElem?_getD, hx]; simp), Nat.add_zero] at hs
                  have Hs := Lib.hid hs
                  clear hx hs hqj hlq
                  go_wp2_with fail
                  refine ⟨⟨q + 1, by simp, by rw [Hs.out]; simp, Lib.hid Hqj.out, trivial⟩, ?_⟩
                  simp [intOf]; have := Hqj.out; omega
                | false =>
                  have hgd : gs.getD q false = false := by rw [List.getD_eq_getElem?_getD, hx]; rfl
                  rw [if_pos hgd] at hs
                  have hat := left_at hgd hqj
                  have hlt := (List.getElem?_eq_some_iff.1 hat).1
                  have hltI : ((left gs q).length : Int) < ((left gs j).length : Int) := by omega
                  have hltN : decide ((left gs q).length < (left gs j).length) = true := by simp; omega
                  obtain ⟨rg, rc, er⟩ := row_form O5.out (by omega)
                  cases er
                  obtain ⟨a1, d1, a2, d2, hc⟩ := I5.out.at_ hat
                  obtain ⟨z1, z2, z3⟩ := row_cell O5.out (hc 1 _ rfl)
                  have hcI : ((left gs j).length : Int) ≤ (cv : Int) := by omega
                  have Hs := Lib.hid hs
                  clear hx hs hqj hlq hat hlt hgd hc
                  go_wp2_with fail
                  refine ⟨⟨q + 1, by simp, by rw [Hs.out]; simp, Lib.hid Hqj.out, trivial⟩, ?_⟩
                  simp [intOf]; have := Hqj.out; omega
              · have ej : q = j := by have := hq.out; omega
                subst ej
                clear hqj hlq
                have hqN : decide ((q : Int) < (q : Int)) = false := by simp
                go_wp2_with fail
                go_ret
                exact ⟨rfl, B5.out.gr⟩
end Go.Proofs.Yticgnaikbmnagaa
