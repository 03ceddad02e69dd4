/-
  Carried over from another seat of ours (QO).
-/
import Derived.Test.YtfamepdghememaaQN
set_option linter.unusedVariables false
set_option linter.unusedSimpArgs false
namespace Go.Proofs.Ytfamepdghememaa
open Go.RowKit Go.Maps Go.WideMaps
attribute [local go_sem] Oper.semAt_some
variable {S S' : Nat → Prop} {W W1 W' : World}
/-- Binds that are handed in. -/
structure Kl (W : World) (a : Option Addr) (kb c : Nat) (kl : List (ByteArray × Lf)) : Prop where
  at_ : 0 < kl.length → a = some ⟨kb, 0, none⟩ ∧ kl.length ≤ c
  each : ∀ (j : Nat) (s : ByteArray) (t : Lf), kl[j]? = some (s, t) → (∃ a1 c1 a2 c2, Bd W kb (j * 10) s t a1 c1 a2 c2) ∧ 1 ≤ s.size ∧ s.size ≤ 32 ∧ FaultOk (.mk t [] []) ∧ t.s.size ≤ 32
/-- How Match ends. -/
def MOut (W : World) (kl : List (ByteArray × Lf)) (r : List ByteArray) (b : Bool) (m : Nat) (R : ByteArray → Option Value) (e : Ending) (w' : World) : Prop :=
  (b = false ∧ e = .returned (.tuple #[.slice none 0 0, .bool false, .int .i64 0])) ∨ (b = true ∧ 64 < m ∧ e = .returned (.tuple #[.slice none 0 0, .bool false, .int .i64 52])) ∨
  (b = true ∧ m ≤ 64 ∧ ∃ v bv, e = .returned (.tuple #[v, .bool true, .int .i64 0]) ∧ w'.ownsRow W.heap.size 36 10 v (kl.length + r.length) (bv.flatMap cellsOf) ∧ Bds (kl ++ r.map fun s => (s, { k := 1, n := numV ((R s).getD z9) })) bv)
theorem at_box {A : Nat → Prop} {T : Tm} {N : Nat} {k n : Int} {x y : Nat} {s : ByteArray} {a c d : Int} {bs l : Value} (h : Rep A W T (tv k n x y s a c d bs l)) (hA : A N) (hb : W.heap[N]? = some (.cells #[.int .i64 k, .int .i64 n, .complex .f64 x y, .string s, .int .i64 a, .int .u32 c, .int .u64 d, bs, l] 31 (0, 0))) : At A W T N 0 := by
  refine ⟨hA, _, h, fun j u hu => ?_⟩
  simp only [World.cell?, hb, Nat.zero_add]
  simpa [cellsOf] using hu
set_option maxRecDepth 20000 in
set_option maxHeartbeats 3200000 in
theorem match_c (hS : SameOk) (A : Nat → Prop) (W : World) (k : Int) (hk : k = 6 ∨ k = 7) (ns r : List ByteArray) (zs : List Int) (pv tv : Value) (hp : Rep A W (.mk { k := k } [] (ns.map vr)) pv) (ht : Rep A W (.mk { k := k } [] (zs.map it)) tv) (hA : ∀ i, A i → i < W.heap.size)
    (hl : ns.length = zs.length) (hn : ns.length ≤ 256) (hz : ∀ s ∈ ns, isVar s = true ∧ 1 ≤ s.size ∧ s.size ≤ 32) (hi : ∀ z ∈ zs, inR z = true) (hr : gath ns [] r) (hrn : ∀ s ∈ r, s ∈ ns) (hr2 : r.length ≤ 256)
    (ka : Option Addr) (kb kc : Nat) (kl : List (ByteArray × Lf)) (hK : Kl W ka kb kc kl) (hk1 : kl.length ≤ 1) (R0 : ByteArray → Option Value) (hR0 : ∀ s ∈ ns, R0 s = none) (hRs : ∀ s v, R0 s = some v → s.size ≤ 1000) (hRv : ∀ s v, R0 s = some v → ∃ t a1 c1 a2 c2, v = lv t a1 c1 a2 c2)
    (hmo : ∀ w, Gr (fun _ => False) W w → Calls Try.prog 15 #[.slice ka kl.length kc] w fun e w' => ∃ mb, e = .returned (.tuple #[.map (some mb), .bool true]) ∧ w.heap.size ≤ mb ∧ Mo w' mb z9 kl.length R0 ∧ Gr (fun _ => False) w w')
    (Q : Ending → World → Prop)
    (hQ : ∀ (vs : List Value) (b : Bool) (m : Nat) (R : ByteArray → Option Value) (e : Ending) (w' : World), vs.length = ns.length → (∀ (j : Nat) (v : Value), vs[j]? = some v → ∃ z : Int, zs[j]? = some z ∧ numV v = z) → fitR (ns.zip vs) kl.length R0 = (b, m, R) → MOut W kl r b m R e w' → Gr (fun _ => False) W w' → Q e w')
    (hin : ∀ (vs : List Value) (b : Bool) (m : Nat) (R : ByteArray → Option Value), vs.length = ns.length → fitR (ns.zip vs) kl.length R0 = (b, m, R) → b = true → (∀ (j : Nat) (v : Value), vs[j]? = some v → IntV v) → ∀ s ∈ r, ∃ v, R s = some v ∧ IntV v) :
    Calls Try.prog 8 #[pv, tv, .slice ka kl.length kc] W Q := by
  obtain ⟨pk, pn, px, py, ps, pa', pc', pd, x1, m1, y1, x2, m2, y2, rfl⟩ := hp.agg
  obtain ⟨tk, tn, tx, ty, ts', ta', tc', td, u1, o1, v1, u2, o2, v2, rfl⟩ := ht.agg
  have gA := Gr.alloc W (.cells #[.int .i64 pk, .int .i64 pn, .complex .f64 px py, .string ps, .int .i64 pa', .int .u32 pc', .int .u64 pd, .slice x1 m1 y1, .slice x2 m2 y2] 31) (fun _ => False)
  have gB := Gr.alloc (W.alloc (.cells #[.int .i64 pk, .int .i64 pn, .complex .f64 px py, .string ps, .int .i64 pa', .int .u32 pc', .int .u64 pd, .slice x1 m1 y1, .slice x2 m2 y2] 31)) (.cells #[.int .i64 tk, .int .i64 tn, .complex .f64 tx ty, .string ts', .int .i64 ta', .int .u32 tc', .int .u64 td, .slice u1 o1 v1, .slice u2 o2 v2] 31) (fun _ => False)
  have hbp := gB.keep (heap_alloc_new W (.cells #[.int .i64 pk, .int .i64 pn, .complex .f64 px py, .string ps, .int .i64 pa', .int .u32 pc', .int .u64 pd, .slice x1 m1 y1, .slice x2 m2 y2] 31)) (fun e => e)
  have hbt := heap_alloc_new (W.alloc (.cells #[.int .i64 pk, .int .i64 pn, .complex .f64 px py, .string ps, .int .i64 pa', .int .u32 pc', .int .u64 pd, .slice x1 m1 y1, .slice x2 m2 y2] 31)) (.cells #[.int .i64 tk, .int .i64 tn, .complex .f64 tx ty, .string ts', .int .i64 ta', .int .u32 tc', .int .u64 td, .slice u1 o1 v1, .slice u2 o2 v2] 31)
  rw [World.size_alloc] at hbt
  have Hbp := Lib.hid hbp
  have Hbt := Lib.hid hbt
  have G0 := Lib.hid (gA.trans gB)
  have Z0 : Hid (((W.alloc (.cells #[.int .i64 pk, .int .i64 pn, .complex .f64 px py, .string ps, .int .i64 pa', .int .u32 pc', .int .u64 pd, .slice x1 m1 y1, .slice x2 m2 y2] 31)).alloc (.cells #[.int .i64 tk, .int .i64 tn, .complex .f64 tx ty, .string ts', .int .i64 ta', .int .u32 tc', .int .u64 td, .slice u1 o1 v1, .slice u2 o2 v2] 31)).heap.size = W.heap.size + 2) := Lib.hid (by simp)
  clear hbp hbt gA gB
  have HA := Lib.hid hA
  have Hp := Lib.hid hp
  have Ht := Lib.hid ht
  have Hz := Lib.hid hz
  have Hi := Lib.hid hi
  have Hr := Lib.hid hr
  have Hrn := Lib.hid hrn
  have Hr2 := Lib.hid hr2
  have HK := Lib.hid hK
  have HR0 := Lib.hid hR0
  have HRs := Lib.hid hRs
  have HRv := Lib.hid hRv
  have Hmo := Lib.hid hmo
  have HQ := Lib.hid hQ
  have Hin := Lib.hid hin
  have HS := Lib.hid hS
  have Hl := Lib.hid hl
  have Hn := Lib.hid hn
  have Hk1 := Lib.hid hk1
  have Hk := Lib.hid hk
  clear hp ht hA hz hi hr hrn hr2 hK hR0 hRs hRv hmo hQ hin hS hl hn hk1 hk
  go_enter Try.func8, Try.ntmps8
  go_wp2_with fail
  generalize World.alloc (World.alloc W _) _ = X0 at Hbp Hbt G0 Z0 ⊢
  refine (pcheck_nest A X0 k (ns.map vr) _ Hk.out (by rw [List.length_map]; exact Hn.out) (fun i hi => by have := HA.out i hi; have := Z0.out; omega) (Hp.out.turn (fun i hi hlt => ⟨hi, G0.out.block i hlt (fun e => e)⟩)) (fun x hx => by obtain ⟨s, hs, rfl⟩ := List.mem_map.1 hx; exact ⟨⟨_, rfl⟩, faultP_var s (Hz.out s hs).1⟩)).mono ?_
  rintro e w1 ⟨rfl, g1⟩
  have G1 := Lib.hid (G0.out.trans g1)
  have Bt1 := g1.keep Hbt.out (fun e => e)
  obtain ⟨⟨t0, t1, t2, t3, t4, t5, t6, t7, t8⟩, tf⟩ := nine Bt1
  have l1 := (Array.getElem?_eq_some_iff.1 Bt1).1
  have g01 := Lib.hid g1
  clear g1 Bt1
  go_wp2_with fail
  refine (check_nest A w1 k Hk.out zs _ (Ht.out.turn (fun i hi hlt => ⟨hi, G1.out.block i hlt (fun e => e)⟩)) (fun i hi => Nat.lt_of_lt_of_le (HA.out i hi) G1.out.size) (by have := Hl.out; have := Hn.out; omega) Hi.out).mono ?_
  rintro e w2 ⟨rfl, g2⟩
  have G2 := Lib.hid (G1.out.trans g2)
  have g02 := Lib.hid (g01.out.trans g2)
  clear g2 t0 t1 t2 t3 t4 t5 t6 t7 t8 tf l1 G1 g01
  go_wp2_with fail
  refine (Hmo.out w2 G2.out).mono ?_
  rintro e w3 ⟨mb, rfl, hmb, hM3, g3⟩
  have G3 := Lib.hid (G2.out.trans g3)
  have g03 := Lib.hid (g02.out.trans g3)
  have HM3 := Lib.hid hM3
  have hmlt := hM3.lt
  have hmW : Hid (W.heap.size + 2 ≤ mb) := Lib.hid (by have := g02.out.size; have := Z0.out; omega)
  clear g3 G2 g02 hM3 hmb
  go_wp2_with fail
  refine (mcopy_c w3 mb kl.length R0 HM3.out Hk1.out HRs.out HRv.out).mono ?_
  rintro e w4 ⟨ab, rfl, hab, hM4, g4⟩
  have G4 := Lib.hid (G3.out.trans g4)
  have g04 := Lib.hid (g03.out.trans g4)
  have HM4 := Lib.hid hM4
  have HB4 := Lib.hid (HM3.out.gr g4 (fun e => e))
  have hne : Hid (mb < ab) := Lib.hid (by omega)
  clear g4 G3 g03 HM3 hM4
  obtain ⟨pa, ta, pb, tb, pc, tc, vs, hF, hvs⟩ := ft_of (A := fun i => A i ∨ i = W.heap.size ∨ i = W.heap.size + 1) (at_box (Hp.out.turn (fun i hi hlt => ⟨.inl hi, G4.out.block i hlt (fun e => e)⟩)) (.inr (.inl rfl)) (g04.out.keep Hbp.out (fun e => e))) (at_box (Ht.out.turn (fun i hi hlt => ⟨.inl hi, G4.out.block i hlt (fun e => e)⟩)) (.inr (.inr rfl)) (g04.out.keep Hbt.out (fun e => e))) Hl.out Hi.out
  have hVI : Hid (∀ (j : Nat) (v : Value), vs[j]? = some v → IntV v) := Lib.hid (fun j v hv => (hF.tv j v hv).2)
  have hvl := Lib.hid hF.vl
  have Hvs := Lib.hid hvs
  have hfit := Lib.hid (fit_c HS.out w4 ab kl.length R0 W.heap.size 0 (W.heap.size + 1) 0 k pa ta pb tb ns.length pc tc ns vs hF HM4.out Hk.out Hn.out (by have := Hk1.out; omega) (fun s hs => by have := Hz.out s hs; omega) (fun s hs v0 hv0 => by rw [HR0.out s hs] at hv0; cases hv0))
  obtain ⟨q, hq⟩ : ∃ q, fitR (ns.zip vs) kl.length R0 = q := ⟨_, rfl⟩
  obtain ⟨b, m, R⟩ := q
  rw [hq] at hfit
  have Hq := Lib.hid hq
  clear hF hvs hq HM4
  go_wp2_with fail
  refine hfit.out.mono ?_
  rintro e w5 ⟨rfl, hM5, g5⟩
  have HM5 : Hid (Mo w5 ab z9 m R) := Lib.hid hM5
  have hmn := hne.out
  have HB5 := Lib.hid (HB4.out.gr g5 (by omega))
  have s4 := G4.out.size
  have G5 := Lib.hid (G4.out.trans' g5 (fun i hi e => by have := hmW.out; omega))
  have Bp5 := Lib.hid (g5.keep (g04.out.keep Hbp.out (fun e => e)) (by have := hmW.out; omega))
  have s5 : Hid (ab < w5.heap.size) := Lib.hid hM5.lt
  clear g5 G4 g04 hM5 HB4 hfit Hbp Hbt G0 s4
  cases b with
  | false =>
    go_wp2_with fail
    refine bodyPost_ret (v := .tuple #[.slice none 0 0, .bool false, .int .i64 0]) (by simp [results, Try.results8, go_sem]) rfl ?_
    exact HQ.out vs false m R _ _ hvl.out Hvs.out Hq.out (.inl ⟨rfl, rfl⟩) G5.out
  | true =>
    have hlen := HM5.out.len Try.underlying48 3
    have hm0 : (0 : Int) ≤ (m : Int) := by omega
    by_cases h64 : 64 < m
    · have hI : (64 : Int) < (m : Int) := by omega
      have hN : decide (64 < m) = true := by simp; omega
      have H64 := Lib.hid h64
      clear h64
      go_wp2_with fail
      refine bodyPost_ret (v := .tuple #[.slice none 0 0, .bool false, .int .i64 52]) (by simp [results, Try.results8, go_sem]) rfl ?_
      exact HQ.out vs true m R _ _ hvl.out Hvs.out Hq.out (.inr (.inl ⟨rfl, H64.out, rfl⟩)) G5.out
    · have hI : decide ((64 : Int) < (m : Int)) = false := by simp; omega
      have hN : decide (64 < m) = false := by simp; omega
      have H64 : Hid (m ≤ 64) := Lib.hid (by omega)
      have hm64 : (m : Int) ≤ 64 := by omega
      clear h64
      obtain ⟨i0, hi0, hz0, hz1, hz2⟩ := info_parts info36
      obtain ⟨w6, hmk, hown, hgr⟩ := run_make_own (P := Try.prog) w5 w5.heap.size 34 36 i0 _ 10 Try.underlying34 hi0 hz0 hz1 .i64 .i64 m (by rw [hz2]; have := H64.out; omega) (by unfold maxLen; have := H64.out; omega) (Nat.le_refl _)
      have hkn0 : (0 : Int) ≤ (kl.length : Int) := by omega
      have hknI : (kl.length : Int) ≤ 1 := by have := Hk1.out; omega
      have G6 : Hid (Gr (fun i => w5.heap.size ≤ i) w5 w6) := Lib.hid ((Gr.of_grown (S := fun _ => False) hgr (fun k e => by cases e)).mono (fun _ _ e => e.elim))
      have O6 := Lib.hid hown
      clear hown hgr
      go_wp2_with fail
      go_loopw [51, 14] (fun u v wr => ∃ (j : Nat) (bv : List Value), u = .int .i64 (j : Int) ∧ Hid (j ≤ kl.length) ∧ Hid (wr.ownsRow w5.heap.size 36 10 v j (bv.flatMap cellsOf)) ∧ Hid (Bds (kl.take j) bv) ∧ Hid (Gr (fun i => w5.heap.size ≤ i) w5 wr)) (fun u _ _ => kl.length - (intOf u).toNat)
      case atStart => exact ⟨0, [], rfl, Lib.hid (Nat.zero_le _), O6, Lib.hid rfl, G6⟩
      case round =>
        obtain ⟨j, bv, rfl, hj, hO, hB, hG⟩ := hrel
        clear O6 G6 hmk
        have hjI : (j : Int) ≤ 1 := by have := hj.out; omega
        have hj0 : (0 : Int) ≤ (j : Int) := by omega
        obtain ⟨av, cv, rfl⟩ := ownsRow_sv hO.out
        have hW5 := G5.out.size
        rcases Nat.lt_or_ge j kl.length with hz1' | hz1'
        · have hzI : (j : Int) < (kl.length : Int) := by omega
          have hzN : decide (j < kl.length) = true := by simp; omega
          obtain ⟨hka, hkc⟩ := HK.out.at_ (by omega)
          subst hka
          have hkcI : (kl.length : Int) ≤ (kc : Int) := by omega
          obtain ⟨⟨s, t⟩, hst⟩ : ∃ st, kl[j]? = some st := ⟨_, List.getElem?_eq_getElem hz1'⟩
          obtain ⟨⟨a1, c1, a2, c2, hBd⟩, hs1, hs2, hft, hts⟩ := HK.out.each j s t hst
          have hkb : kb < W.heap.size := hBd.facts.2
          have hBd2 := (hBd.g G5.out (fun e => e)).g hG.out (by omega)
          obtain ⟨⟨f0, f1, f2, f3, f4, f5, f6, f7, f8, f9⟩, hlt⟩ := hBd2.facts
          have hbind := Lib.hid (fun w => bind_c s hs1 hs2 t hft hts w a1 c1 a2 c2)
          have htk : kl.take (j + 1) = kl.take j ++ [(s, t)] := by rw [List.take_add_one, hst]; rfl
          have Htk := Lib.hid htk
          have Hz1 := Lib.hid hz1'
          clear hst hBd hBd2 hft hts htk hz1' hkc
          obtain ⟨tk2, tn2, tx2, ty2, tS2, ta2, tc2, td2⟩ := t
          go_wp2_with fail
          refine (hbind.out _).mono ?_
          rintro e w7 ⟨⟨b1, d1, b2, d2, rfl⟩, g7⟩
          have G7 : Hid (Gr (fun _ => False) wr w7) := Lib.hid ((Gr.alloc wr _ _).trans g7)
          have O7 := Lib.hid (ownsRow_gr hO.out G7.out (fun _ _ e => e))
          clear g7 hbind hO f0 f1 f2 f3 f4 f5 f6 f7 f8 f9
          go_wp2_with (first
            | (at_builtin; refine wpList_bd _ rfl _ _ rfl w5.heap.size j w7.heap.size (.slice av j cv) (bv.flatMap cellsOf) s { k := tk2, n := tn2, x := tx2, y := ty2, s := tS2, a := ta2, c := tc2, d := td2 } b1 d1 b2 d2 rfl rfl (O7.out.alloc _) (heap_alloc_new w7 _) (by have := hj.out; have := Hk1.out; omega) (by rw [World.size_alloc]; have := G7.out.size; have := hG.out.size; omega) ?_; intro v' w8 h1 h2 h3))
          refine ⟨⟨j + 1, bv ++ [bd s { k := tk2, n := tn2, x := tx2, y := ty2, s := tS2, a := ta2, c := tc2, d := td2 } b1 d1 b2 d2], by simp, Lib.hid Hz1.out, Lib.hid (by rw [List.flatMap_append]; simpa using h1), Lib.hid (by rw [Htk.out]; exact hB.out.snoc), Lib.hid ((hG.out.trans ((G7.out.trans (Gr.alloc w7 _ _)).mono (fun _ _ e => e.elim))).trans (Gr.of_grown h2 (fun k e => (ownsRow_lt O7.out k e).1)))⟩, ?_⟩
          simp [intOf]; have := Hz1.out; omega
        · have hzI : decide ((j : Int) < (kl.length : Int)) = false := by simp; omega
          have hzN : decide (j < kl.length) = false := by simp; omega
          have ej : j = kl.length := by have := hj.out; omega
          subst ej
          rw [List.take_length] at hB
          have Bp8 := hG.out.keep Bp5.out (by have := hmW.out; have := hne.out; have := s5.out; omega)
          obtain ⟨⟨t0, t1, t2, t3, t4, t5, t6, t7, t8⟩, tf⟩ := nine Bp8
          have l8 := (Array.getElem?_eq_some_iff.1 Bp8).1
          have G8 : Hid (Gr (fun _ => False) W wr) := Lib.hid (G5.out.trans' hG.out (fun i hi e => by omega))
          clear hz1' Bp8
          go_wp2_with fail
          refine (names_c A wr k Hk.out ns r _ Hn.out (Hp.out.turn (fun i hi hlt => ⟨hi, G8.out.block i hlt (fun e => e)⟩)) (fun i hi => Nat.lt_of_lt_of_le (HA.out i hi) G8.out.size) (fun s hs => (Hz.out s hs).2) Hr.out).mono ?_
          rintro e w9 ⟨nv, rfl, hnv, g9⟩
          obtain ⟨na, nc, rfl⟩ := ownsRow_sv hnv
          have hrl : r.length ≤ 1000 := by have := Hr2.out; omega
          have hrI : (r.length : Int) ≤ 1000 := by omega
          have hr0 : (0 : Int) ≤ (r.length : Int) := by omega
          have ON := Lib.hid hnv
          have O9 := Lib.hid (ownsRow_gr hO.out g9 (fun _ _ e => e))
          have G9 : Hid (Gr (fun i => w5.heap.size ≤ i) w5 w9) := Lib.hid (hG.out.trans (g9.mono (fun _ _ e => e.elim)))
          have E9 : Hid (∀ k, (Value.slice av kl.length cv).ownBlock = some k → (Value.slice na r.length nc).ownBlock ≠ some k) := Lib.hid (fun k h1 h2 => by have := (ownsRow_lt hO.out k h1).2; have := (ownsRow_lt hnv k h2).1; omega)
          have Hrl := Lib.hid hrl
          clear hnv g9 hO hG t0 t1 t2 t3 t4 t5 t6 t7 t8 tf l8 G8 hrl
          go_wp2_with fail
          go_loopw [67, 14] (fun u v w => ∃ (j : Nat) (bv : List Value), u = .int .i64 (j : Int) ∧ Hid (j ≤ r.length) ∧ Hid (w.ownsRow w5.heap.size 36 10 v (kl.length + j) (bv.flatMap cellsOf)) ∧ Hid (Bds (kl ++ (r.take j).map fun s => (s, { k := 1, n := numV ((R s).getD z9) })) bv) ∧ Hid (Gr (fun i => w5.heap.size ≤ i) w5 w) ∧ Hid (w.ownsRow wr.heap.size 9 1 (.slice na r.length nc) r.length (r.map Value.string)) ∧ Hid (∀ k, v.ownBlock = some k → (Value.slice na r.length nc).ownBlock ≠ some k)) (fun u _ _ => r.length - (intOf u).toNat)
          case atStart => exact ⟨0, bv, rfl, Lib.hid (Nat.zero_le _), O9, Lib.hid (by simpa using hB.out), G9, ON, E9⟩
          case round =>
            obtain ⟨j, bw, rfl, hj, hO, hB2, hG, hN2, hE⟩ := hrel
            clear O9 G9 ON E9 hB bv
            have hjI : (j : Int) ≤ 1000 := by have := hj.out; have := Hrl.out; omega
            have hj0 : (0 : Int) ≤ (j : Int) := by omega
            obtain ⟨aw, cw, rfl⟩ := ownsRow_sv hO.out
            have hs5 := s5.out
            have hmw := hmW.out
            have hnee := hne.out
            rcases Nat.lt_or_ge j r.length with hz1' | hz1'
            · have hzI : (j : Int) < (r.length : Int) := by omega
              have hzN : decide (j < r.length) = true := by simp; omega
              obtain ⟨nb, nc', en⟩ := row_form hN2.out (by omega)
              cases en
              obtain ⟨s, hs⟩ : ∃ s, r[j]? = some s := ⟨_, List.getElem?_eq_getElem hz1'⟩
              have hsr := List.mem_of_getElem? hs
              have hsn := Hrn.out s hsr
              obtain ⟨hv1, hv2, hv3⟩ := Hz.out s hsn
              have hcell := row_cell hN2.out (q := j) (u := .string s) (by rw [List.getElem?_map, hs]; rfl)
              obtain ⟨n0c, n1c, n2c⟩ := hcell
              have hncI : (r.length : Int) ≤ (nc : Int) := by omega
              obtain ⟨v, hRsv, p, e1, e2, e3, e4, rfl, hpR⟩ := Hin.out vs true m R hvl.out Hq.out rfl hVI.out s hsr
              have hlk := (HB5.out.gr hG.out (by omega)).look Try.underlying48 (zero31 wr) s (by omega)
              rw [HR0.out s hsn] at hlk
              have hget := ((HM5.out.gr hG.out (by omega)).gr (Gr.alloc wr oz9 (fun _ => False)) (fun e => e)).get Try.underlying48 (zero31 _) s (by omega)
              rw [hRsv] at hget
              have hbind := Lib.hid (fun w => bind_c s hv2 hv3 { k := 1, n := p } (ok_int p hpR) (by show (0 : Nat) ≤ 32; omega) w e1 e2 e3 e4)
              have htk : (r.take (j + 1)).map (fun s => ((s, { k := 1, n := numV ((R s).getD z9) }) : ByteArray × Lf)) = (r.take j).map (fun s => ((s, { k := 1, n := numV ((R s).getD z9) }) : ByteArray × Lf)) ++ [(s, { k := 1, n := p })] := by
                rw [List.take_add_one, hs, List.map_append]
                simp only [Option.toList, List.map_cons, List.map_nil, hRsv]
                rfl
              have Htk := Lib.hid htk
              have Hz1 := Lib.hid hz1'
              clear hs hsr hsn hv1 hv2 hv3 htk hz1' hRsv hpR
              go_wp2_with fail
              refine (hbind.out _).mono ?_
              rintro e w7 ⟨⟨b1, d1, b2, d2, rfl⟩, g7⟩
              have G7 : Hid (Gr (fun _ => False) wr w7) := Lib.hid ((Gr.alloc wr _ _).trans g7)
              have O7 := Lib.hid (ownsRow_gr hO.out G7.out (fun _ _ e => e))
              have N7 := Lib.hid (ownsRow_gr hN2.out G7.out (fun _ _ e => e))
              have L7 : Hid (nb < w7.heap.size) := Lib.hid (Nat.lt_of_lt_of_le n1c G7.out.size)
              clear g7 hbind hO hN2 hlk hget n0c n1c n2c
              go_wp2_with (first
                | (at_builtin; refine wpList_bd _ rfl _ _ rfl w5.heap.size (kl.length + j) w7.heap.size (.slice aw (kl.length + j) cw) (bw.flatMap cellsOf) s { k := 1, n := p } b1 d1 b2 d2 rfl rfl (O7.out.alloc _) (heap_alloc_new w7 _) (by have := hj.out; have := Hk1.out; have := Hrl.out; omega) (by rw [World.size_alloc]; have := G7.out.size; have := hG.out.size; omega) ?_; intro v' w8 h1 h2 h3))
              have hG8 : Gr (fun i => w5.heap.size ≤ i) w5 w8 := (hG.out.trans ((G7.out.trans (Gr.alloc w7 _ _)).mono (fun _ _ e => e.elim))).trans (Gr.of_grown h2 (fun k e => (ownsRow_lt O7.out k e).1))
              refine ⟨⟨j + 1, bw ++ [bd s { k := 1, n := p } b1 d1 b2 d2], by simp, Lib.hid Hz1.out, Lib.hid (by rw [List.flatMap_append, ← Nat.add_assoc]; simpa using h1), Lib.hid (by rw [Htk.out, ← List.append_assoc]; exact hB2.out.snoc), Lib.hid hG8, Lib.hid ?_, Lib.hid (fun k hk1' hk2' => ?_)⟩, ?_⟩
              · refine ownsRow_of_block N7.out (fun k _ hk2 => ?_)
                exact (h2.block k (by rw [World.size_alloc]; have := (ownsRow_lt N7.out k hk2).2; omega) (fun e => hE.out k e.symm hk2)).trans (heap_alloc_old w7 _ (ownsRow_lt N7.out k hk2).2)
              · rcases h3 with h3 | h3
                · exact hE.out k (h3 ▸ hk1') hk2'
                · rw [h3] at hk1'
                  have e1 : nb = k := by simpa [Value.ownBlock] using hk2'
                  cases hk1'
                  rw [World.size_alloc] at e1
                  have := L7.out; omega
              · simp [intOf]; have := Hz1.out; omega
            · have hzI : decide ((j : Int) < (r.length : Int)) = false := by simp; omega
              have hzN : decide (j < r.length) = false := by simp; omega
              have ej : j = r.length := by have := hj.out; omega
              subst ej
              rw [List.take_length] at hB2
              clear hz1'
              go_wp2_with fail
              refine bodyPost_ret (v := .tuple #[.slice aw (kl.length + r.length) cw, .bool true, .int .i64 0]) (by simp [results, Try.results8, go_sem]) rfl ?_
              exact HQ.out vs true m R _ _ hvl.out Hvs.out Hq.out (.inr (.inr ⟨rfl, H64.out, _, bw, rfl, ownsRow_mono hO.out G5.out.size, hB2.out⟩)) (G5.out.trans' hG.out (fun i hi e => by omega))
end Go.Proofs.Ytfamepdghememaa

