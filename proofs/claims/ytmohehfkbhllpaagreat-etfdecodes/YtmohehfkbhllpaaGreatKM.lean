/-
  Carried over from another seat of ours (KM).
-/
import Derived.Test.YtmohehfkbhllpaaGreatKI
set_option linter.unusedVariables false
set_option linter.unusedSimpArgs false
namespace Go.Proofs.YtmohehfkbhllpaaGreat
open Go.RowKit Go.Maps
variable {S S' Z F F0 : Nat → Prop} {W W0 W1 W' : World}
theorem thenF_le {K : Act → World → Prop} {Q : Exit → Act → World → Prop} : ∀ e a w, Exit.then K (fun _ _ _ => False) e a w → Exit.then K Q e a w
  | .normal, _, _, h => h
  | .panic _, _, _, h => h.elim
  | .ret, _, _, h => h.elim
  | .exit _, _, _, h => h.elim
  | .goto _, _, _, h => h.elim
  | .outgrown, _, _, h => h.elim
set_option maxRecDepth 20000 in
set_option maxHeartbeats 3200000 in
theorem done_cons (Y : Code) (hY : Lab 2 (.seq .skip Y)) (Q : Exit → Act → World → Prop) (b tb R X n : Nat) (m : List Int) (l : List ByteArray) (ov : Value) (e : Ne) (ns : List Ne) (B : Nat → Prop) (T : Tm)
    (h0 : ∀ a w ov' B', Jc Z F0 W0 b tb R X F n m l ov' (⟨e.k, e.w, e.ts ++ [T]⟩ :: ns) B' a w → (e.ts ++ [T]).length < e.w → Q (.goto 0) a w)
    (h2 : ∀ a w ov' B' T', Jc Z F0 W0 b tb R X F n m l ov' ns B' a w → Hand (W0.heap.size + 2) F B' ov' w X T' → T' = .mk { k := e.k } [] (e.ts ++ [T]) → ¬ (e.ts ++ [T]).length < e.w → Q (.goto 2) a w)
    (a : Act) (w : World) (hJ : Jc Z F0 W0 b tb R X F n m l ov (e :: ns) B a w) (hT : Hand (W0.heap.size + 2) F B ov w X T) (hw : e.w ≤ 256) (hts : e.ts.length < e.w) : Y.wp Tryz.prog Q a w := by
  unfold Lab at hY
  simp only [Tryz.f13, scopeOf, findLabel, Option.getD] at hY
  cases hY
  generalize hX3 : Code.seq (Code.label 3) _ = X3
  have hL3 : Hid (∀ Z, Code.seq (Code.label 3) Z = X3 → Lab 3 (.seq .skip Z)) := Lib.hid (by
    intro Z hZ
    rw [← hX3] at hZ
    cases hZ
    unfold Lab
    simp only [Tryz.f13, scopeOf, findLabel, Option.getD]
    rfl)
  obtain ⟨x, rfl⟩ := hJ.fr.lit
  obtain ⟨vals, hn, hrow⟩ := hJ.op.nst
  obtain ⟨lv, vs, A, B1, rest, rfl, hlr, hreps, hn1, hA, hB1, hlv⟩ := hn
  have hlen := hn1.len
  obtain ⟨q, hq⟩ : ∃ q, ns.length = q := ⟨_, rfl⟩
  rw [List.length_cons, hq] at hrow
  rw [hq] at hlen
  obtain ⟨g, cap, rfl, hgb, hgl, hc1, hc2, hz, k0, k1, k2, k3, k4, k5, k6, k7, k8, k9⟩ := last_at hrow hlen
  have hq24 : (q : Int) < 24 := by have := hJ.nl; rw [List.length_cons, hq] at this; omega
  obtain ⟨C, tk, tn, tx, ty, ts, ta, tc, td, a1, n1, c1, a2, n2, c2, hx, hrep, hC⟩ := hT
  have hxf := hx.facts
  have hsv : ∃ a c, lv = .slice a e.ts.length c := ownsRow_sv hlr
  obtain ⟨la, lc, rfl⟩ := hsv
  obtain ⟨p, hp⟩ : ∃ p, e.ts.length = p := ⟨_, rfl⟩
  rw [hp] at hlr k8 hts
  rw [hp] at hrow hlv
  have hpI : (p : Int) < 256 := by omega
  have HX := Lib.hid hX3
  have Hhx := Lib.hid hx
  have HJ := Lib.hid hJ
  have Hlr := Lib.hid hlr
  have Hreps := Lib.hid hreps
  have Hn1 := Lib.hid hn1
  have HA := Lib.hid hA
  have HB1 := Lib.hid hB1
  have Hlv := Lib.hid hlv
  have Hrep := Lib.hid hrep
  have HC := Lib.hid hC
  have Hrow := Lib.hid hrow
  have Hq := Lib.hid hq
  have Hp := Lib.hid hp
  clear hX3 hx hJ hlr hreps hn1 hA hB1 hlv hrep hC hrow hq hp
  have gA : Gr (fun _ => False) w (w.alloc (.cells #[.int .i64 0, .int .i64 0, .complex .f64 0 0, .string e0, .int .i64 0, .int .u32 0, .int .u64 0, nl, nl] 31)).drew := (Gr.alloc _ _ _).trans (Gr.drew _ _)
  have hlit : (w.alloc (.cells #[.int .i64 0, .int .i64 0, .complex .f64 0 0, .string e0, .int .i64 0, .int .u32 0, .int .u64 0, nl, nl] 31)).drew.heap[w.heap.size]? = some (.cells #[.int .i64 0, .int .i64 0, .complex .f64 0 0, .string e0, .int .i64 0, .int .u32 0, .int .u64 0, nl, nl] 31 (0, 0)) := heap_alloc_new w _
  have hrA := ownsRow_gr Hlr.out gA (fun _ _ e => e)
  have hbA : W0.heap.size + 2 ≤ (w.alloc (.cells #[.int .i64 0, .int .i64 0, .complex .f64 0 0, .string e0, .int .i64 0, .int .u32 0, .int .u64 0, nl, nl] 31)).drew.heap.size := by have := gA.size; omega
  have hng : (Value.slice la p lc).ownBlock ≠ some g := fun e => (HJ.out.op.own g rfl).1 (Hlv.out g e).1
  have hxs : (vs.flatMap cellsOf).length = p * 9 := by rw [Hreps.out.flat, Hp.out]
  have hts' : Hid ((⟨e.k, e.w, e.ts ++ [T]⟩ : Ne).ts.length ≤ 256) := Lib.hid (by simp only [List.length_append, List.length_cons, List.length_nil]; have := Hp.out; omega)
  have hpp : (p : Int) < (p : Int) + 1 := by omega
  have hXl := Hhx.out.lt
  have HgA := Lib.hid gA
  have Hlit := Lib.hid hlit
  have HrA := Lib.hid hrA
  have HbA := Lib.hid hbA
  have Hng := Lib.hid hng
  have Hxs := Lib.hid hxs
  clear gA hlit hrA hbA hng hxs
  go_wp2_with fail
  refine wp_mono (Q := Exit.then _ (fun _ _ _ => False)) ?_ thenF_le
  go_region_law
    (first
      | (refine step_t rfl _ _ rfl (W0.heap.size + 2) p w.heap.size (.slice la p lc) (vs.flatMap cellsOf) rfl rfl HrA.out Hlit.out (by omega) HbA.out ?_; intro g' cap' w1 o1 k1; obtain ⟨d1, d2, d3, d4, d5, d6, y0, y1, y2, y3, y4, y5, y6, y7, y8, e1, e2, e3, e4, e5, e6, e7, e8, e9⟩ := after_ap Hrow.out hlen Hng.out HgA.out o1 Hxs.out k1; have O1 := Lib.hid o1; have K1 := Lib.hid k1; clear o1 k1)
      | fail)
  all_goals
    go_wp2_with fail
    have hX := HX.out
    rw [← hX]
    refine wp_seq (wp_label ?_)
    refine next_w _ (hL3.out _ hX) Q b tb R X n m l (.slice (some ⟨g, 0, none⟩) (q + 1) cap) ⟨e.k, e.w, e.ts ++ [T]⟩ ns (fun k => B k ∨ C k ∨ (Value.slice (some ⟨g', 0, none⟩) (p + 1) cap').ownBlock = some k) (fun a w hj hh => h0 a w _ _ hj hh) (fun a w ov' B' T' hj ht he => h2 a w ov' B' T' hj ht he) _ _ ?_ hw hts'.out
    first
      | with_reducible refine after_jcA HJ.out ?_ Hq.out Hp.out Hrow.out hlen Hreps.out Hn1.out HA.out HB1.out Hlv.out Hrep.out HC.out HgA.out O1.out K1.out
      | with_reducible refine after_jcB HJ.out ?_ Hq.out Hp.out Hrow.out hlen Hreps.out Hn1.out HA.out HB1.out Hlv.out Hrep.out HC.out HgA.out O1.out K1.out
    exact ⟨rfl, rfl, rfl, rfl, rfl, rfl⟩


end Go.Proofs.YtmohehfkbhllpaaGreat

