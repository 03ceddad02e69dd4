/-
  Carried over from another seat of ours (MD).
-/
import Derived.Test.YtmohehfkbhllpaaGreatMC
import Derived.Test.YtmohehfkbhllpaaGreatBM
set_option linter.unusedVariables false
set_option linter.unusedSimpArgs false
namespace Go.Proofs.YtmohehfkbhllpaaGreat
open Go.RowKit Go.Maps
variable {S S' Z G : Nat → Prop} {W W1 W' : World}

set_option maxRecDepth 20000 in
set_option maxHeartbeats 1000000 in
theorem list_t (A : Nat → Prop) (W : World) (l : List Tm) (a : Option Addr) (c : Nat) (vs : List Value) (hrow : RowT A W vs l.length (.slice a l.length c)) (hrs : Reps A W l vs) (hA : ∀ k, A k → k < W.heap.size) (ht : thin (.mk { k := 7 } [] l)) (hh : hgt (.mk { k := 7 } [] l) < 9223372036854775000)
    (hok : okT Pm stepW (.mk { k := 7 } [] l) 1 0) (n : Nat) (hgo : goT stepW (.mk { k := 7 } [] l) 1 0 = .ok n) :
    Calls Tryz.prog 9 #[.slice a l.length c] W fun e w' => ∃ v', e = .returned v' ∧ Rep (fun k => W.heap.size ≤ k) w' (.mk { k := 7 } [] l) v' ∧ Gr (fun _ => False) W w' := by
  have hrep : Rep A W (.mk { k := 7 } [] l) (tv 7 0 0 0 e0 0 0 0 nl (.slice a l.length c)) := ⟨nl, _, vs, rfl, .inl ⟨rfl, none, 0, rfl⟩, hrow, hrs⟩
  have ho := fun w (g : Gr (fun _ => False) W w) => own_t A w (.mk { k := 7 } [] l) _ (hrep.turn (A' := A) (W' := w) (fun k hk _ => ⟨hk, g.block k (hA k hk) (fun e => e)⟩)) (fun k hk => by have := hA k hk; have := g.size; omega) ht hh hok n hgo
  replace ho := Lib.hid (ho _ (Gr.alloc W (.cells #[.int .i64 0, .int .i64 0, .complex .f64 0 0, .string e0, .int .i64 0, .int .u32 0, .int .u64 0, nl, nl] 31) _))
  have hR : Bx (W.alloc (.cells #[.int .i64 0, .int .i64 0, .complex .f64 0 0, .string e0, .int .i64 0, .int .u32 0, .int .u64 0, nl, nl] 31)) W.heap.size 0 0 0 0 e0 0 0 0 nl nl := heap_alloc_new W _
  have g0 : Gr (fun _ => False) W (W.alloc (.cells #[.int .i64 0, .int .i64 0, .complex .f64 0 0, .string e0, .int .i64 0, .int .u32 0, .int .u64 0, nl, nl] 31)) := Gr.alloc _ _ _
  have hs0 : (W.alloc (.cells #[.int .i64 0, .int .i64 0, .complex .f64 0 0, .string e0, .int .i64 0, .int .u32 0, .int .u64 0, nl, nl] 31)).heap.size = W.heap.size + 1 := by simp
  replace hR := Lib.hid hR
  replace hs0 := Lib.hid hs0
  clear hrep hok hgo hrow hrs ht hh
  go_enter Tryz.func9, Tryz.ntmps9
  go_wp2_with fail
  refine (Hid.out ho).mono ?_
  rintro e w4 ⟨v4, rfl, hr4, g4⟩
  obtain ⟨rk, rn, rx, ry, rS, ra, rc', rd, b3, m3, d3, b4, m4, d4, rfl⟩ := hr4.agg
  have hR4 := hR.out.gr g4 (fun e => e)
  obtain ⟨q9, t9⟩ := hR4.set9 rk rn rx ry rS ra rc' rd (.slice b3 m3 d3) (.slice b4 m4 d4)
  have y0 := hR4.froz 0 (by decide)
  have y1 := hR4.froz 1 (by decide)
  have y2 := hR4.froz 2 (by decide)
  have y3 := hR4.froz 3 (by decide)
  have y4 := hR4.froz 4 (by decide)
  have y5 := hR4.froz 5 (by decide)
  have y6 := hR4.froz 6 (by decide)
  have y7 := hR4.froz 7 (by decide)
  have y8 := hR4.froz 8 (by decide)
  have hzf := hR4.facts
  obtain ⟨p0, p1, p2, p3, p4, p5, p6, p7, p8⟩ := q9.facts
  replace hr4 := Lib.hid hr4
  go_wp2
  refine bodyPost_ret (v := tv rk rn rx ry rS ra rc' rd (.slice b3 m3 d3) (.slice b4 m4 d4)) (by simp [results, Tryz.results9, go_sem, p0, p1, p2, p3, p4, p5, p6, p7, p8]) rfl ⟨_, rfl, ?_, (g0.trans g4).trans' t9 (fun i hi e => by omega)⟩
  have hs := hs0.out
  exact hr4.out.turn (fun k hk hlt => ⟨by omega, t9.block k hlt (by omega)⟩)

set_option maxRecDepth 20000 in
set_option maxHeartbeats 800000 in
theorem mkAtom_c (s : ByteArray) (w : World) : Calls Tryz.prog 10 #[.string s] w fun e w' => e = .returned (lf 3 0 0 0 s 0 0 0) ∧ Gr (fun _ => False) w w' := by
  go_enter Tryz.func10, Tryz.ntmps10
  go_wp2
  exact bodyPost_ret (v := lf 3 0 0 0 s 0 0 0) (by simp [results, Tryz.results10, go_sem]) rfl ⟨rfl, Gr.alloc _ _ _⟩
abbrev sA : ByteArray := ⟨#[97]⟩
abbrev sB : ByteArray := ⟨#[98]⟩
abbrev TA : Tm := .mk { k := 3, s := sA } [] []
abbrev TB : Tm := .mk { k := 3, s := sB } [] []
abbrev T0 : Tm := .mk { k := 7 } [] [TA, TB, TA]
abbrev x0 : List Int := [7, 3, 3, 0, 1, 97, 3, 1, 1, 98, 3, 0]
theorem nmA : isName sA = true := by decide
theorem nmB : isName sB = true := by decide
theorem go0 : goT stepW T0 1 0 = .ok 4 := by simp [goT, goL, stepW, lenB]
theorem thin0 : thin T0 := by simp [thin, thinL]
theorem hgt0 : hgt T0 < 9223372036854775000 := by simp [hgt, hgtL]
theorem okm0 : okT Pm stepW T0 1 0 := by simp [okT, okL, goT, goL, stepW, Pm, lenB]
theorem okw0 : okT Pw stepW T0 1 0 := by
  have f0 : FaultOk T0 := ok_list _ (by decide)
  have f1 : FaultOk TA := atom_ok nmA
  have f2 : FaultOk TB := atom_ok nmB
  simp [okT, okL, goT, goL, stepW, Pw, lenB, f0, f1, f2]
theorem q1 : nq sA [] = [0, 1, 97] ∧ putL [] sA = [sA] := by decide +kernel
theorem q2 : nq sB [sA] = [1, 1, 98] ∧ putL [sA] sB = [sA, sB] := by decide +kernel
theorem q3 : nq sA [sA, sB] = [0] ∧ putL [sA, sB] sA = [sA, sB] := by decide +kernel
theorem wp0 : WpOk T0 [] x0 [sA, sB] := by
  have w1 := wp_atom sA nmA [] (by decide)
  rw [q1.1, q1.2] at w1
  have w2 := wp_atom sB nmB [sA] (by decide)
  rw [q2.1, q2.2] at w2
  have w3 := wp_atom sA nmA [sA, sB] (by decide)
  rw [q3.1, q3.2] at w3
  have := wp_list [TA, TB, TA] (by decide) [] [sA, sB] [3, 0, 1, 97, 3, 1, 1, 98, 3, 0] ⟨[3, 0, 1, 97], [sA], [3, 1, 1, 98, 3, 0], rfl, w1, [3, 1, 1, 98], [sA, sB], [3, 0], rfl, w2, [3, 0], [sA, sB], [], rfl, w3, rfl, rfl⟩
  have e : (7 : Int) :: (vq ([TA, TB, TA] : List Tm).length ++ [3, 0, 1, 97, 3, 1, 1, 98, 3, 0]) = x0 := by decide +kernel
  rwa [e] at this
def isN (n : Int) : Except Int Tm → Bool
  | .ok (.mk t _ _) => t.n == n
  | .error _ => false
def isE (c : Int) : Except Int Tm → Bool
  | .ok _ => false
  | .error d => d == c
theorem d1 : isN (-1) (decV [69, 1, 1]) = true := by decide +kernel
theorem d2 : isE 73 (decV [69, 1, 128, 0]) = true := by decide +kernel
theorem d3 : isE 72 (decV [69, 7, 1]) = true := by decide +kernel
theorem Sq.lit (W : World) (m : List Int) (hb : ∀ x ∈ m, 0 ≤ x ∧ x < 256) (c : Array Value) (hc : c.toList = m.map (Value.int .u8)) (hl : m.length ≤ 1000) (n : Nat) (hn : n = m.length) : Sq (fun k => k = W.heap.size) (W.alloc (.cells c 5)) (.slice (some ⟨W.heap.size, 0, none⟩) n n) m := by
  subst hn
  refine ⟨_, _, rfl, Nat.le_refl _, by omega, hb, fun _ => ⟨W.heap.size, 0, rfl, rfl, fun j u hu => ?_⟩⟩
  rw [World.cell?_alloc_new]
  have : (c.toList)[j]? = some (.int .u8 u) := by rw [hc, List.getElem?_map, hu]; rfl
  simpa using this
theorem dec_e (hd : DecOk) (W : World) (m : List Int) (hb : ∀ x ∈ m, 0 ≤ x ∧ x < 256) (c : Array Value) (hc : c.toList = m.map (Value.int .u8)) (hl : m.length ≤ 1000) (n : Nat) (hn : n = m.length) (e' : Int) (he : isE e' (decV m) = true) (b : Nat) (hB : b = W.heap.size) :
    Calls Tryz.prog 5 #[.slice (some ⟨b, 0, none⟩) n n] (W.alloc (.cells c 5)) fun e w' => e = .returned (.tuple #[lf 0 0 0 0 e0 0 0 0, .int .i64 e']) ∧ Gr (fun _ => False) W w' := by
  subst hB
  have h := hd _ (W.alloc (.cells c 5)) _ m (Sq.lit W m hb c hc hl n hn) (fun k e => by subst e; simp)
  cases hr : decV m with
  | ok T => rw [hr] at he; simp [isE] at he
  | error d =>
    rw [hr] at he h
    simp [isE] at he
    subst he
    refine h.mono ?_
    rintro e w' ⟨rfl, hg⟩
    exact ⟨rfl, (Gr.alloc _ _ _).trans hg⟩
theorem dec_n (hd : DecOk) (W : World) (m : List Int) (hb : ∀ x ∈ m, 0 ≤ x ∧ x < 256) (c : Array Value) (hc : c.toList = m.map (Value.int .u8)) (hl : m.length ≤ 1000) (n : Nat) (hn : n = m.length) (z : Int) (he : isN z (decV m) = true) :
    Calls Tryz.prog 5 #[.slice (some ⟨W.heap.size, 0, none⟩) n n] (W.alloc (.cells c 5)) fun e w' => ∃ k x y s a c d a1 n1 c1 a2 n2 c2, e = .returned (.tuple #[tv k z x y s a c d (.slice a1 n1 c1) (.slice a2 n2 c2), .int .i64 0]) ∧ Gr (fun _ => False) W w' := by
  have h := hd _ (W.alloc (.cells c 5)) _ m (Sq.lit W m hb c hc hl n hn) (fun k e => by subst e; simp)
  cases hr : decV m with
  | error d => rw [hr] at he; simp [isN] at he
  | ok T =>
    rw [hr] at he h
    refine h.mono ?_
    rintro e w' ⟨v, rfl, hrep, hg⟩
    obtain ⟨t, bs, l, a1, c1, a2, c2, rfl, rfl⟩ := hrep.ts
    simp [isN] at he
    subst he
    exact ⟨_, _, _, _, _, _, _, _, _, _, _, _, _, rfl, (Gr.alloc _ _ _).trans hg⟩
theorem list0 (W : World) : Calls Tryz.prog 9 #[.slice (some ⟨W.heap.size, 0, none⟩) 3 3] (W.alloc (.cells #[.int .i64 3, .int .i64 0, .complex .f64 0 0, .string sA, .int .i64 0, .int .u32 0, .int .u64 0, nl, nl, .int .i64 3, .int .i64 0, .complex .f64 0 0, .string sB, .int .i64 0, .int .u32 0, .int .u64 0, nl, nl, .int .i64 3, .int .i64 0, .complex .f64 0 0, .string sA, .int .i64 0, .int .u32 0, .int .u64 0, nl, nl] 31)) fun e w' => ∃ v', e = .returned v' ∧ Rep (fun k => k < w'.heap.size) w' T0 v' ∧ Gr (fun _ => False) W w' := by
  generalize hV : W.alloc _ = V
  have gV : Gr (fun _ => False) W V := hV ▸ Gr.alloc _ _ _
  have hs : V.heap.size = W.heap.size + 1 := by rw [← hV]; simp
  have hb : V.heap[W.heap.size]? = some (.cells #[.int .i64 3, .int .i64 0, .complex .f64 0 0, .string sA, .int .i64 0, .int .u32 0, .int .u64 0, nl, nl, .int .i64 3, .int .i64 0, .complex .f64 0 0, .string sB, .int .i64 0, .int .u32 0, .int .u64 0, nl, nl, .int .i64 3, .int .i64 0, .complex .f64 0 0, .string sA, .int .i64 0, .int .u32 0, .int .u64 0, nl, nl] 31 (0, 0)) := hV ▸ heap_alloc_new W _
  clear hV
  have hrow : RowT (fun k => k < V.heap.size) V [lf 3 0 0 0 sA 0 0 0, lf 3 0 0 0 sB 0 0 0, lf 3 0 0 0 sA 0 0 0] 3 (.slice (some ⟨W.heap.size, 0, none⟩) 3 3) :=
    .inr ⟨W.heap.size, 3, _, rfl, by omega, hb, Nat.le_refl _, rfl⟩
  have hrs : Reps (fun k => k < V.heap.size) V [TA, TB, TA] [lf 3 0 0 0 sA 0 0 0, lf 3 0 0 0 sB 0 0 0, lf 3 0 0 0 sA 0 0 0] := by
    refine ⟨_, _, rfl, ⟨nl, nl, [], rfl, .inl ⟨rfl, _, _, rfl⟩, .inl ⟨rfl, _, _, rfl⟩, rfl⟩, _, _, rfl, ⟨nl, nl, [], rfl, .inl ⟨rfl, _, _, rfl⟩, .inl ⟨rfl, _, _, rfl⟩, rfl⟩, _, _, rfl, ⟨nl, nl, [], rfl, .inl ⟨rfl, _, _, rfl⟩, .inl ⟨rfl, _, _, rfl⟩, rfl⟩, rfl⟩
  refine (list_t (fun k => k < V.heap.size) V [TA, TB, TA] (some ⟨W.heap.size, 0, none⟩) 3 _ hrow hrs (fun k hk => hk) thin0 hgt0 okm0 4 go0).mono ?_
  rintro e w' ⟨v', rfl, hr, hg⟩
  exact ⟨v', rfl, hr.turn (fun k _ hlt => ⟨hlt, rfl⟩), gV.trans hg⟩
set_option maxRecDepth 100000 in
set_option maxHeartbeats 1600000 in
theorem alive_k (hd : DecOk) : AliveOk := by
  intro W
  go_enter Tryz.func4, Tryz.ntmps4
  go_wp2_with fail
  refine (mkAtom_c _ _).mono ?_
  rintro e w1 ⟨rfl, g1⟩
  go_wp2_with fail
  refine (mkAtom_c _ _).mono ?_
  rintro e w2 ⟨rfl, g2⟩
  go_wp2_with fail
  refine (mkAtom_c _ _).mono ?_
  rintro e w3 ⟨rfl, g3⟩
  go_wp2_with fail
  refine (list0 w3).mono ?_
  rintro e w4 ⟨v4, rfl, hr4, g4⟩
  go_wp2_with fail
  refine (encode_k (fun k => k < w4.heap.size) w4 T0 v4 4 x0 [sA, sB] hr4 (fun k hk => hk) hgt0 okw0 go0 wp0 (by decide)).mono ?_
  rintro e w5 ⟨bv, rfl, o5, g5⟩
  have gA := (((g1.trans g2).trans g3).trans g4).trans g5
  go_wp2_with fail
  refine (dec_n hd w5 [69, 1, 1] (by decide) #[.int .u8 69, .int .u8 1, .int .u8 1] rfl (by decide) 3 rfl (-1) d1).mono ?_
  rintro e w6 ⟨k, x, y, s, a, c, d, a1, n1, c1, a2, n2, c2, rfl, g6⟩
  go_wp2_with fail
  refine (dec_e hd (w6.alloc (.cells #[.int .i64 k, .int .i64 (-1), .complex .f64 x y, .string s, .int .i64 a, .int .u32 c, .int .u64 d, .slice a1 n1 c1, .slice a2 n2 c2] 31)) [69, 1, 128, 0] (by decide) #[.int .u8 69, .int .u8 1, .int .u8 128, .int .u8 0] rfl (by decide) 4 rfl 73 d2 (w6.heap.size + 1) (by simp)).mono ?_
  rintro e w8 ⟨rfl, g8⟩
  have g7 : Gr (fun _ => False) w6 (w6.alloc (.cells #[.int .i64 k, .int .i64 (-1), .complex .f64 x y, .string s, .int .i64 a, .int .u32 c, .int .u64 d, .slice a1 n1 c1, .slice a2 n2 c2] 31)) := Gr.alloc _ _ _
  have hb7 : Bx (w6.alloc (.cells #[.int .i64 k, .int .i64 (-1), .complex .f64 x y, .string s, .int .i64 a, .int .u32 c, .int .u64 d, .slice a1 n1 c1, .slice a2 n2 c2] 31)) w6.heap.size k (-1) x y s a c d (.slice a1 n1 c1) (.slice a2 n2 c2) := heap_alloc_new w6 _
  have hb8 := hb7.gr g8 (fun e => e)
  have g78 := g7.trans g8
  clear g7 g8 hb7
  go_wp2_with fail
  refine (dec_e hd (w8.alloc (.cells #[.int .i64 0, .int .i64 0, .complex .f64 0 0, .string e0, .int .i64 0, .int .u32 0, .int .u64 0, nl, nl] 31)) [69, 7, 1] (by decide) #[.int .u8 69, .int .u8 7, .int .u8 1] rfl (by decide) 3 rfl 72 d3 (w8.heap.size + 1) (by simp)).mono ?_
  rintro e w10 ⟨rfl, g10⟩
  have g810 := (Gr.alloc w8 (.cells #[.int .i64 0, .int .i64 0, .complex .f64 0 0, .string e0, .int .i64 0, .int .u32 0, .int .u64 0, nl, nl] 31) (fun _ => False)).trans g10
  have hb10 := hb8.gr g810 (fun e => e)
  have hf10 := hb10.facts
  have hl10 := hb10.lt
  have o10 := o5.g0 ((g6.trans g78).trans g810)
  have cv := conv_sb o10.sb
  have hlt := Ob.lit 0 (w10.alloc (.cells #[.int .i64 0, .int .i64 0, .complex .f64 0 0, .string e0, .int .i64 0, .int .u32 0, .int .u64 0, nl, nl] 31)) [69, 7, 3, 3, 0, 1, 97, 3, 1, 1, 98, 3, 0] (by decide) (Nat.zero_le _) #[.int .u8 69, .int .u8 7, .int .u8 3, .int .u8 3, .int .u8 0, .int .u8 1, .int .u8 97, .int .u8 3, .int .u8 1, .int .u8 1, .int .u8 98, .int .u8 3, .int .u8 0] rfl 13 rfl
  have cv2 := conv_sb hlt.sb
  rw [show (w10.alloc (.cells #[.int .i64 0, .int .i64 0, .complex .f64 0 0, .string e0, .int .i64 0, .int .u32 0, .int .u64 0, nl, nl] 31)).heap.size = w10.heap.size + 1 by simp] at cv2
  have cv1 := conv_sb (o10.g0 (Gr.alloc w10 (.cells #[.int .i64 0, .int .i64 0, .complex .f64 0 0, .string e0, .int .i64 0, .int .u32 0, .int .u64 0, nl, nl] 31) (fun _ => False))).sb
  have hsv : ∃ za zc, bv = .slice za 13 zc := o5.sv
  obtain ⟨za, zc, rfl⟩ := hsv
  go_wp2_with fail
  go_ret
  exact ⟨rfl, ((((gA.trans g6).trans g78).trans g810).trans (Gr.alloc _ _ _)).trans (Gr.alloc _ _ _)⟩
end Go.Proofs.YtmohehfkbhllpaaGreat

