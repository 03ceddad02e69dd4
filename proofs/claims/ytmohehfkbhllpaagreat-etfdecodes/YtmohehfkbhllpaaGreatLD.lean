/-
  Carried over from another seat of ours (LD).
  Carried over from another seat of ours (LE).
  Carried over from another seat of ours (LF).
  Carried over from another seat of ours (LG).
-/
import Derived.Test.YtmohehfkbhllpaaGreatLA
import Derived.Test.YtmohehfkbhllpaaGreatBB
import Derived.Test.YtmohehfkbhllpaaGreatAY
set_option linter.unusedVariables false
set_option linter.unusedSimpArgs false
namespace Go.Proofs.YtmohehfkbhllpaaGreat
open Go.RowKit Go.Maps
variable {S S' G : Nat → Prop} {W W1 W' : World}

theorem Wt.fit {wb tb : Nat} {l : List Int} {ns : List ByteArray} {bv : Value} (h : Wt G W wb tb l ns bv) : Wt (fun k => G k ∧ k < W.heap.size) W wb tb l ns bv := by
  obtain ⟨mp, sv, ht, hf⟩ := h.tab
  exact ⟨h.blk, h.row, ⟨mp, sv, ht, fun k e => ⟨hf k e, ht.lt k e⟩⟩, ⟨h.gw, h.lt⟩, fun k e => ⟨h.gb k e, (ownsRow_lt h.row.row k e).2⟩⟩
/-- part lays the bytes x behind what is there, behind the names ns; ns': the names behind it. -/
def WpOk (T : Tm) (ns : List ByteArray) (x : List Int) (ns' : List ByteArray) : Prop := ∀ (A G : Nat → Prop) (W : World) (wb tb : Nat) (l : List Int) (v bv : Value), Rep A W T v → (∀ k, A k → k < W.heap.size ∧ ¬ G k) → (∀ k, G k → k < W.heap.size) → Wt G W wb tb l ns bv → l.length + x.length + 1000 ≤ 800000 →
  Calls Tryz.prog 20 #[pt wb, v] W fun e w' => e = .returned (.tuple #[]) ∧ Wn G W wb tb w' (l ++ x) ns'
theorem Wn.gr0 {wb tb : Nat} {l : List Int} {ns : List ByteArray} {w w' : World} (g : Gr (fun _ => False) W w) (h : Wn G w wb tb w' l ns) : Wn G W wb tb w' l ns := by
  obtain ⟨G', bv, h1, h2⟩ := h.at_
  exact ⟨⟨G', bv, h1, fun k e => (h2 k e).imp id (fun e => Nat.le_trans g.size e)⟩, (g.mono (fun _ _ e => e.elim)).trans h.gr⟩
end Go.Proofs.YtmohehfkbhllpaaGreat


namespace Go.Proofs.YtmohehfkbhllpaaGreat
open Go.RowKit Go.Maps
variable {S S' G : Nat → Prop} {W W1 W' : World}
set_option maxRecDepth 20000 in
set_option maxHeartbeats 1600000 in
theorem wp_atom (s : ByteArray) (hs : isName s = true) (ns : List ByteArray) (h4 : ns.length < 4096) : WpOk (.mk { k := 3, s := s } [] []) ns (3 :: nq s ns) (putL ns s) := by
  intro A G W wb tb l v bv hrep hA hG h hl
  have hnm := fun w G' bv' (h : Wt G' w wb tb (l ++ [3]) ns bv') => wname_c w wb tb (l ++ [3]) ns bv' s hs h4 h (by simp; omega)
  have hq : Hid (l ++ 3 :: nq s ns = l ++ [3] ++ nq s ns) := Lib.hid (by simp)
  rw [hq.out]
  clear hq h4 hs
  generalize nq s ns = P at *
  generalize putL ns s = ns' at *
  obtain ⟨a1, c1, a2, c2, rfl⟩ := len0 hrep
  obtain ⟨xa, xc, rfl⟩ := h.row.sv
  obtain ⟨m1, hm1⟩ : ∃ m, Hid ((l ++ [3]).length = m) := ⟨_, Lib.hid rfl⟩
  have hll : l.length ≤ 799000 := by omega
  go_enter Tryz.func20, Tryz.ntmps20
  go_wp2_with fail
  generalize hW0 : W.alloc _ = W0
  have g0 : Gr (fun _ => False) W W0 := hW0 ▸ Gr.alloc _ _ _
  have hBx : Bx W0 W.heap.size 3 0 0 0 s 0 0 0 (.slice a1 0 c1) (.slice a2 0 c2) := hW0 ▸ heap_alloc_new W _
  clear hW0
  have h0 := h.g0 g0 (fun _ _ e => e)
  obtain ⟨q0, q1, qf⟩ := two50 h0.blk
  have hwb := h0.lt
  have hXl := hBx.lt
  obtain ⟨b0, b1, b2, b3, b4, b5, b6, b7, b8⟩ := hBx.facts
  have g1 : Gr (fun _ => False) W0 (W0.alloc (.cells #[.int .u8 3] 5)).drew := (Gr.alloc _ _ _).trans (Gr.drew _ _)
  have hlit : Lit (W0.alloc (.cells #[.int .u8 3] 5)).drew W0.heap.size 3 := (Lit.new W0 _).g0 (Gr.drew _ _)
  have hnX : ¬ G W.heap.size := fun e => by have := hG _ e; omega
  go_region_law
    (first
      | (refine step_ap rfl _ _ rfl 0 (.slice xa l.length xc) _ l [3] rfl rfl (h0.row.g0 g1) hlit.sb (by simp; omega) (Nat.zero_le _) ?_; intro v1 w1 o1 k1; have gg := Loc.pre g1 k1; have hc1 := k1.gr.keep (g1.keep h0.blk (fun e => e)) (by exact h0.nb); obtain ⟨p0, p1, pf⟩ := two50 hc1; have hb1 : wb < w1.heap.size := (Array.getElem?_eq_some_iff.1 hc1).1; have hnw : v1.ownBlock ≠ some W.heap.size := gg.own_ne hXl (fun e => hnX (h0.gb _ e)); obtain ⟨ya, yc, rfl⟩ := o1.sv; rw [hm1.out] at o1 gg k1 hnw ⊢)
      | fail)
  all_goals
    have hw2 := h0.app o1 gg
    generalize hW2 : World.setCell w1 _ _ = w2
    replace hw2 : Wn G W0 wb tb w2 (l ++ [3]) ns := hW2 ▸ hw2
    clear hW2 b0 b1 b2 b3 b4 b5 b6 b7 b8 p0 p1 pf q0 q1 qf hlit g1 gg k1 o1 hc1 hb1 hnw
    have hB2 : Bx w2 W.heap.size 3 0 0 0 s 0 0 0 (.slice a1 0 c1) (.slice a2 0 c2) := hBx.gr hw2.gr hnX
    obtain ⟨b0, b1, b2, b3, b4, b5, b6, b7, b8⟩ := hB2.facts
    have hX2 := hB2.lt
    obtain ⟨G2, bv2, h2, hG2⟩ := hw2.at_
    go_wp2_with fail
    refine (hnm w2 G2 bv2 h2).mono ?_
    rintro e w3 ⟨rfl, hw3⟩
    have hw4 := Wn.gr0 g0 (Wn.step hw2.gr hG2 hw3)
    go_wp2_with fail
    go_end0
    exact ⟨rfl, hw4⟩
end Go.Proofs.YtmohehfkbhllpaaGreat


namespace Go.Proofs.YtmohehfkbhllpaaGreat
open Go.RowKit Go.Maps
variable {S S' G : Nat → Prop} {W W1 W' : World}

/-- part lays the elements' bytes one behind the other. -/
def SeqOk : List Tm → List ByteArray → List Int → List ByteArray → Prop
  | [], ns, x, ns' => x = [] ∧ ns' = ns
  | T :: r, ns, x, ns' => ∃ x1 ns1 x2, x = x1 ++ x2 ∧ WpOk T ns x1 ns1 ∧ SeqOk r ns1 x2 ns'
theorem row_els {A : Nat → Prop} {K : Int} {ts : List Tm} {v : Value} (hrep : Rep A W (.mk { k := K } [] ts) v) : ∃ a1 c1 a2 c2, v = YtmohehfkbhllpaaGreat.ts K 0 0 0 e0 0 0 0 a1 0 c1 a2 ts.length c2 ∧ (ts ≠ [] → ∃ g, a2 = some ⟨g, 0, none⟩ ∧ ts.length ≤ c2 ∧ ∀ (k : Nat) x, ts[k]? = some x → At A W x g (k * 9)) := by
  obtain ⟨bv, lv, vs, rfl, k1, k2, k3⟩ := hrep
  obtain ⟨a1, c1, rfl⟩ : ∃ a c, bv = .slice a 0 c := by
    rcases k1 with ⟨_, a, c, rfl⟩ | ⟨g, cap, cur, rfl, _⟩
    · exact ⟨a, c, rfl⟩
    · exact ⟨_, cap, rfl⟩
  rcases k2 with ⟨e0', a2, c2, rfl⟩ | ⟨g, cap, cur, rfl, hg, hcur, hcap, htake⟩
  · exact ⟨a1, c1, a2, c2, by rw [e0'], fun e => absurd (List.length_eq_zero_iff.1 e0') e⟩
  · refine ⟨a1, c1, _, cap, rfl, fun _ => ⟨g, rfl, hcap, fun k x hx => ?_⟩⟩
    obtain ⟨w, r1, r2⟩ := reps_at ts vs k3 k x hx
    refine ⟨hg, w, r1, fun j u hu => ?_⟩
    have e := r2 j u hu
    rw [← htake] at e
    have hlt : k * 9 + j < ts.length * 9 := by
      rcases Nat.lt_or_ge (k * 9 + j) (ts.length * 9) with h | h
      · exact h
      · rw [List.getElem?_eq_none (by simp; omega)] at e; cases e
    rw [List.getElem?_take_of_lt hlt] at e
    simp only [World.cell?, hcur]
    simpa using e
set_option maxRecDepth 20000 in
set_option maxHeartbeats 1600000 in
theorem wp_list (ts : List Tm) (hts : ts.length ≤ 256) (ns ns' : List ByteArray) (x : List Int) (hseq : SeqOk ts ns x ns') : WpOk (.mk { k := 7 } [] ts) ns (7 :: (vq ts.length ++ x)) ns' := by
  intro A G W wb tb l v bv hrep hA hG h hl
  have hv1 := vqF_len 9 ts.length
  have hnum := fun w G' bv' (h : Wt G' w wb tb (l ++ [7]) ns bv') => wnumber_c w wb tb (l ++ [7]) ns bv' ts.length (by omega) h (by simp; omega)
  have hq : Hid (l ++ 7 :: (vq ts.length ++ x) = l ++ [7] ++ vq ts.length ++ x) := Lib.hid (by simp)
  rw [hq.out]
  have hlx : (l ++ [7] ++ vq ts.length).length + x.length + 1000 ≤ 800000 := by simp at hl ⊢; omega
  have hnI : (ts.length : Int) ≤ 256 := by omega
  have hn0 : (0 : Int) ≤ (ts.length : Int) := by omega
  clear hq hv1 hts
  obtain ⟨a1, c1, a2, c2, rfl, hel⟩ := row_els hrep
  generalize hnn : ts.length = n at *
  replace hel := Lib.hid hel
  replace hseq := Lib.hid hseq
  replace hA := Lib.hid hA
  obtain ⟨L, hL⟩ : ∃ L, l ++ [7] ++ vq n = L := ⟨_, rfl⟩
  rw [hL] at hnum hlx ⊢
  clear hL
  obtain ⟨xa, xc, rfl⟩ := h.row.sv
  obtain ⟨m1, hm1⟩ : ∃ m, Hid ((l ++ [7]).length = m) := ⟨_, Lib.hid rfl⟩
  have hll : l.length ≤ 799000 := by omega
  go_enter Tryz.func20, Tryz.ntmps20
  go_wp2_with fail
  generalize hW0 : W.alloc _ = W0
  have g0 : Gr (fun _ => False) W W0 := hW0 ▸ Gr.alloc _ _ _
  have hBx : Bx W0 W.heap.size 7 0 0 0 e0 0 0 0 (.slice a1 0 c1) (.slice a2 n c2) := hW0 ▸ heap_alloc_new W _
  clear hW0
  have h0 := h.g0 g0 (fun _ _ e => e)
  obtain ⟨q0, q1, qf⟩ := two50 h0.blk
  have hwb := h0.lt
  have hXl := hBx.lt
  obtain ⟨b0, b1, b2, b3, b4, b5, b6, b7, b8⟩ := hBx.facts
  have g1 : Gr (fun _ => False) W0 (W0.alloc (.cells #[.int .u8 7] 5)).drew := (Gr.alloc _ _ _).trans (Gr.drew _ _)
  have hlit : Lit (W0.alloc (.cells #[.int .u8 7] 5)).drew W0.heap.size 7 := (Lit.new W0 _).g0 (Gr.drew _ _)
  have hnX : ¬ G W.heap.size := fun e => by have := hG _ e; omega
  go_region_law
    (first
      | (refine step_ap rfl _ _ rfl 0 (.slice xa l.length xc) _ l [7] rfl rfl (h0.row.g0 g1) hlit.sb (by simp; omega) (Nat.zero_le _) ?_; intro v1 w1 o1 k1; have gg := Loc.pre g1 k1; have hc1 := k1.gr.keep (g1.keep h0.blk (fun e => e)) (by exact h0.nb); obtain ⟨p0, p1, pf⟩ := two50 hc1; have hb1 : wb < w1.heap.size := (Array.getElem?_eq_some_iff.1 hc1).1; have hnw : v1.ownBlock ≠ some W.heap.size := gg.own_ne hXl (fun e => hnX (h0.gb _ e)); obtain ⟨ya, yc, rfl⟩ := o1.sv; rw [hm1.out] at o1 gg k1 hnw ⊢)
      | fail)
  all_goals
    have hw2 := h0.app o1 gg
    generalize hW2 : World.setCell w1 _ _ = w2
    replace hw2 : Wn G W0 wb tb w2 (l ++ [7]) ns := hW2 ▸ hw2
    clear hW2 b0 b1 b2 b3 b4 b5 b6 b7 b8 p0 p1 pf q0 q1 qf hlit g1 gg k1 o1 hc1 hb1 hnw
    have hB2 : Bx w2 W.heap.size 7 0 0 0 e0 0 0 0 (.slice a1 0 c1) (.slice a2 n c2) := hBx.gr hw2.gr hnX
    obtain ⟨b0, b1, b2, b3, b4, b5, b6, b7, b8⟩ := hB2.facts
    have hX2 := hB2.lt
    obtain ⟨G2, bv2, h2, hG2⟩ := hw2.at_
    have hw2' := hw2
    go_wp2_with fail
    refine (hnum w2 G2 bv2 h2).mono ?_
    rintro e w3 ⟨rfl, hw3⟩
    clear b0 b1 b2 b3 b4 b5 b6 b7 b8
    have hn2 : ¬ G2 W.heap.size := fun e => by
      rcases hG2 _ e with e | e
      · exact hnX e
      · omega
    have hB3 : Bx w3 W.heap.size 7 0 0 0 e0 0 0 0 (.slice a1 0 c1) (.slice a2 n c2) := hB2.gr hw3.gr hn2
    obtain ⟨d0, d1, d2, d3, d4, d5, d6, d7, d8⟩ := hB3.facts
    have hX3 := hB3.lt
    have hw3' := Wn.step hw2'.gr hG2 hw3
    obtain ⟨G3, bv3, h3, hG3⟩ := hw3'.at_
    clear hnum hl h2 hw3 hn2 hB2 hX2 hw2'
    go_wp2_with fail
    go_loopw [84] (fun i wr => ∃ (j : Nat) (xa xb : List Int) (nsj : List ByteArray), j ≤ n ∧ i = .int .i64 (j : Int) ∧ Hid (x = xa ++ xb) ∧ Wn G W0 wb tb wr (L ++ xa) nsj ∧ Hid (SeqOk (ts.drop j) nsj xb ns')) (fun i _ => n - (intOf i).toNat)
    case atStart => exact ⟨0, [], x, ns, by omega, rfl, Lib.hid rfl, by simpa using hw3', Lib.hid (by simpa using hseq.out)⟩
    case round =>
      obtain ⟨j, xa', xb, nsj, hj, rfl, hx, hw, hs⟩ := hrel
      by_cases hjl : j < n
      · have hjI : (j : Int) < (n : Int) := by omega
        obtain ⟨T, hT⟩ : ∃ T, ts[j]? = some T := ⟨_, List.getElem?_eq_getElem (by omega)⟩
        obtain ⟨g, rfl, hrc, hat⟩ := hel.out (fun e => by rw [e] at hnn; simp at hnn; omega)
        have hdr : ts.drop j = T :: ts.drop (j + 1) := by
          rw [List.drop_eq_getElem_cons (by omega)]
          congr 1
          rw [List.getElem?_eq_getElem (by omega)] at hT
          exact Option.some.inj hT
        have hsd := hs.out
        rw [hdr] at hsd
        obtain ⟨x1, ns1, x2, rfl, hwp, hs2⟩ := hsd
        have gW : Gr G W wr := (g0.mono (fun _ _ e => e.elim)).trans hw.gr
        have hatw : At A wr T g (j * 9) := (hat j T hT).turn (fun k hk => gW.block k (hA.out k hk).1 (hA.out k hk).2)
        obtain ⟨-, v, hrepT, hns⟩ := hatw
        have hns : Ns wr g (j * 9) v := hns
        obtain ⟨tk, tn, tx, ty, tS, ta, tc, td, b1, k1, d1, b2, k2, d2, rfl⟩ := hrepT.agg
        obtain ⟨t0, t1, t2, t3, t4, t5, t6, t7, t8⟩ := hns.facts
        obtain ⟨G5, bv5, h5, hG5⟩ := hw.at_
        have hxl : x.length = xa'.length + (x1.length + x2.length) := by rw [hx.out]; simp
        have hlen5 : (L ++ xa').length + x1.length + 1000 ≤ 800000 := by rw [List.length_append]; omega
        have hcall := fun o => hwp A (fun k => G5 k ∧ k < wr.heap.size) (wr.alloc o) wb tb (L ++ xa') _ bv5 (hrepT.turn (A' := A) (W' := wr.alloc o) (fun k hk hlt => ⟨hk, (Gr.alloc wr o (fun _ => False)).block k hlt (fun e => e)⟩))
          (fun k hk => ⟨by have := (hA.out k hk).1; have := gW.size; simp; omega, fun e => by rcases hG5 k e.1 with e | e; exact (hA.out k hk).2 e; have := (hA.out k hk).1; have := g0.size; omega⟩)
          (fun k e => by simp; omega) (h5.fit.g0 (Gr.alloc wr o (fun _ => False)) (fun _ _ e => e)) (by omega)
        have hfin : ∀ o w', Wn (fun k => G5 k ∧ k < wr.heap.size) (wr.alloc o) wb tb w' (L ++ xa' ++ x1) ns1 → ∃ (j' : Nat) (xa xb : List Int) (nsj : List ByteArray), j' ≤ n ∧ Value.int .i64 ((j : Int) + 1) = .int .i64 (j' : Int) ∧ Hid (x = xa ++ xb) ∧ Wn G W0 wb tb w' (L ++ xa) nsj ∧ Hid (SeqOk (ts.drop j') nsj xb ns') := fun o w' hk =>
          ⟨j + 1, xa' ++ x1, x2, ns1, by omega, by congr 1, Lib.hid (by rw [hx.out]; simp), by
            have := Wn.step hw.gr (fun k e => hG5 k e.1) (Wn.gr0 (Gr.alloc wr o (fun _ => False)) hk)
            rwa [List.append_assoc] at this, Lib.hid hs2⟩
        replace hfin := Lib.hid hfin
        replace hcall := Lib.hid hcall
        clear hs hx hwp hs2 hat hrepT hns gW hdr hxl hlen5 h5 hG5
        go_wp2_with (first
          | (go_at_call 20; with_reducible refine (Hid.out hcall _).mono ?_; rintro e w1 ⟨rfl, hw1⟩))
        exact ⟨hfin.out _ w1 hw1, by simp [intOf]; omega⟩
      · obtain rfl : j = n := by omega
        have hsd := hs.out
        rw [List.drop_eq_nil_of_le (by omega)] at hsd
        obtain ⟨rfl, rfl⟩ := hsd
        have hx' := hx.out
        rw [List.append_nil] at hx'
        subst hx'
        go_wp2_with fail
        go_end0
        exact ⟨rfl, Wn.gr0 g0 hw⟩
end Go.Proofs.YtmohehfkbhllpaaGreat


namespace Go.Proofs.YtmohehfkbhllpaaGreat
open Go.RowKit Go.Maps
variable {S S' G : Nat → Prop} {W W1 W' : World}

set_option maxRecDepth 20000 in
set_option maxHeartbeats 1600000 in
theorem encode_k (A : Nat → Prop) (W : World) (T : Tm) (v : Value) (n : Nat) (x : List Int) (ns' : List ByteArray) (hrep : Rep A W T v) (hA : ∀ k, A k → k < W.heap.size) (hh : hgt T < 9223372036854775000)
    (hok : okT Pw stepW T 1 0) (hgo : goT stepW T 1 0 = .ok n) (hwp : WpOk T [] x ns') (hl : x.length + 1 ≤ 131072) :
    Calls Tryz.prog 8 #[v] W fun e w' => ∃ bv, e = .returned (.tuple #[bv, .int .i64 0]) ∧ Ob 0 w' bv (69 :: x) ∧ Gr (fun _ => False) W w' := by
  have hck := fun w v (g : Gr (fun _ => False) W w) (h : Rep A w T v) => check_t A w T v n h (fun k hk => by have := hA k hk; have := g.size; omega) hh hok hgo
  have hrepg := fun w2 (g : Gr (fun _ => False) W w2) => hrep.turn (A' := A) (W' := w2) (fun k hk _ => ⟨hk, g.block k (hA k hk) (fun e => e)⟩)
  obtain ⟨tk, tn, tx, ty, ts', ta, tc, td, a1, n1, c1, a2, n2, c2, rfl⟩ := hrep.agg
  have hBx : Bx (W.alloc (.cells #[.int .i64 tk, .int .i64 tn, .complex .f64 tx ty, .string ts', .int .i64 ta, .int .u32 tc, .int .u64 td, .slice a1 n1 c1, .slice a2 n2 c2] 31)) W.heap.size tk tn tx ty ts' ta tc td (.slice a1 n1 c1) (.slice a2 n2 c2) := heap_alloc_new W _
  have g0 : Gr (fun _ => False) W (W.alloc (.cells #[.int .i64 tk, .int .i64 tn, .complex .f64 tx ty, .string ts', .int .i64 ta, .int .u32 tc, .int .u64 td, .slice a1 n1 c1, .slice a2 n2 c2] 31)) := Gr.alloc _ _ _
  have hC := Lib.hid (hck _ _ g0 (hrepg _ g0))
  replace hBx := Lib.hid hBx
  clear hck hok hgo hrep
  replace hrepg := Lib.hid hrepg
  replace hwp := Lib.hid hwp
  go_enter Tryz.func8, Tryz.ntmps8
  go_wp2_with fail
  refine (Hid.out hC).mono ?_
  rintro e w1 ⟨rfl, hg1⟩
  have hB1 := hBx.out.gr hg1 (fun e => e)
  have g1 := g0.trans hg1
  go_wp2_with fail
  generalize hW2 : w1.alloc _ = w2
  have g2 : Gr (fun _ => False) w1 w2 := hW2 ▸ Gr.alloc _ _ _
  have hlit : Ob 0 w2 (.slice (some ⟨w1.heap.size, 0, none⟩) 1 1) [69] := hW2 ▸ Ob.lit 0 w1 [69] (by simp) (Nat.zero_le _) #[.int .u8 69] rfl 1 rfl
  have hs2 : w2.heap.size = w1.heap.size + 1 := by rw [← hW2]; simp
  clear hW2
  refine (new_c w2).mono ?_
  rintro e w3 ⟨rfl, htab3, g3⟩
  have g13 := g2.trans g3
  have hB3 := hB1.gr g13 (fun e => e)
  have hf3 := hB3.facts
  have hX3 := hB3.lt
  rw [hs2] at htab3
  have hs3 : w1.heap.size + 1 < w3.heap.size := (Array.getElem?_eq_some_iff.1 htab3.blk).1
  have hsW : W.heap.size ≤ w1.heap.size := g1.size
  obtain ⟨m5, hm5⟩ : ∃ m, Hid (([69] ++ x).length = m) := ⟨_, Lib.hid rfl⟩
  have hm5I : ¬ (131072 : Int) < (m5 : Int) := by have := hm5.out; simp at this; omega
  have hcall := fun (o : Obj) (ho : o = .cells #[.slice (some ⟨w1.heap.size, 0, none⟩) 1 1, pt (w1.heap.size + 1)] 60) => hwp.out A (fun k => w1.heap.size ≤ k ∧ k ≤ w3.heap.size) (w3.alloc o) w3.heap.size (w1.heap.size + 1) [69] _ (.slice (some ⟨w1.heap.size, 0, none⟩) 1 1)
    (hrepg.out _ ((g1.trans g13).trans (Gr.alloc w3 o _))) (fun k hk => ⟨by have := hA k hk; simp; omega, fun e => by have := hA k hk; omega⟩) (fun k e => by simp; omega)
    ⟨ho ▸ heap_alloc_new w3 _, hlit.g0 (g3.trans (Gr.alloc _ _ _)), ⟨none, .slice none 0 0, htab3.gr (Gr.alloc w3 o (fun _ => False)) (fun _ _ e => e), fun k e => by
      rcases e with rfl | e | e
      · constructor <;> omega
      · cases e
      · simp [Value.ownBlock] at e⟩, ⟨by omega, Nat.le_refl _⟩, fun k e => by simp [Value.ownBlock] at e; subst e; constructor <;> omega⟩ (by simp; omega)
  replace hcall := Lib.hid hcall
  clear htab3 hlit hA hB1 hC
  go_wp2_with fail
  refine (hcall.out _ rfl).mono ?_
  rintro e w5 ⟨rfl, hw5⟩
  obtain ⟨G5, bv5, h5, hG5⟩ := hw5.at_
  have ho5 := h5.row
  obtain ⟨za, zc, rfl⟩ := h5.row.sv
  obtain ⟨q0, q1, qf⟩ := two50 h5.blk
  have hgr : Gr (fun _ => False) W w5 := by
    refine ((g1.trans g13).trans (Gr.alloc w3 _ _)).trans' hw5.gr (fun i hi e => ?_)
    omega
  rw [hm5.out] at q0 ho5
  clear hcall hw5 h5 hB3 hf3
  go_wp2_with fail
  go_ret2
  exact ⟨_, rfl, ho5, hgr⟩
end Go.Proofs.YtmohehfkbhllpaaGreat

