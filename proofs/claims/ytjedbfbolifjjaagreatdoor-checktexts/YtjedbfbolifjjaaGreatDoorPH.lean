/-
  The reference's Bound: choices and receiving.
  The reference's Bound of any part of a program.
-/
import Derived.Test.YtjedbfbolifjjaaGreatDoorPF
import Derived.Test.YtjedbfbolifjjaaGreatDoorPC
set_option linter.unusedVariables false
set_option linter.unusedSimpArgs false
namespace Go.Proofs.YtjedbfbolifjjaaGreatDoor
open Go.RowKit Go.Maps
variable {W W' : World}
/-- A clause, and what is asked of its body. -/
def ClR (C : Tr) : Prop := ∃ cs cn cb P X, C = .mk 15 cs cn cb [P, X] ∧ BdR X
theorem lk_cl (f : Nat) (L : List ByteArray) (s : ByteArray) (n : Int) (b : List Int) (P X : Tr) : lk (f + 1) L (.mk 15 s n b [P, X]) = ((lk f (putT L P) X).1, L) := by
 conv => lhs; unfold lk
 rw [if_neg (by decide), if_neg (by decide), if_pos rfl]
theorem cl_size {s : ByteArray} {n : Int} {b : List Int} {P X : Tr} : (preL [Tr.mk 15 s n b [P, X]]).length = (preL [P]).length + (preL [X]).length + 1 := by
 rw [pre_mk, pre_cons2, preL_nil]; rfl
theorem goA_same {step : Stp} {cs : List Tr} (h : ∀ C ∈ cs, ∀ L, (step L C).2 = L) : ∀ L, (goA step L cs).2 = L := by
 induction cs with
 | nil => intro L; rfl
 | cons C cs ih =>
  intro L
  have h1 := h C (by simp) L
  show (if (step L C).1 = true then (true, (step L C).2) else goA step (step L C).2 cs).2 = L
  split
  · exact h1
  · rw [ih (fun D hD => h D (by simp [hD]))]; exact h1
set_option maxRecDepth 100000 in
set_option maxHeartbeats 3200000 in
theorem bd12 (s : ByteArray) (n : Int) (b : List Int) (l : List Tr) (E : Tr) (h0 : l[0]? = some E) (hE : BdR E) (hcs : ∀ (i : Nat) (C : Tr), 1 ≤ i → l[i]? = some C → ClR C) : BdR (.mk 12 s n b l) := by
 intro N W vb v bs hb hN hR hlen h4k
 rw [pre_mk] at hlen h4k
 obtain ⟨ba, bc, la, lc, rfl, hrow⟩ := rep_row hR
 have hNr := hb.up hN
 obtain ⟨ab, cb, rfl⟩ := hb.sv
 have hll := preL_len l
 have hlI : (l.length : Int) ≤ 30000 := by omega
 have gA := Gr.alloc W (.cells #[.int .i64 12, .string s, .int .i64 n, .slice ba b.length bc, .slice la l.length lc] 25) (fun _ => False)
 obtain ⟨⟨m0, m1, m2, m3, m4⟩, _⟩ := five_cells (heap_alloc_new W (.cells #[.int .i64 12, .string s, .int .i64 n, .slice ba b.length bc, .slice la l.length lc] 25))
 have hsz1 : (W.alloc (.cells #[.int .i64 12, .string s, .int .i64 n, .slice ba b.length bc, .slice la l.length lc] 25)).heap.size = W.heap.size + 1 := by simp
 have hst0 := Lib.hid ((hNr.g0 gA).up gA.size)
 obtain ⟨tb, htb⟩ : ∃ tb, W.heap.size = tb := ⟨_, rfl⟩
 rw [htb] at m0 m1 m2 m3 m4 hsz1 hN
 obtain ⟨g0, o0, rfl, hg0, hEA⟩ := hrow 0 E h0
 rw [Nat.zero_mul, Nat.add_zero] at hEA
 obtain ⟨vE, hRE, ⟨xk, xs, xn, xa1, xn1, xc1, xa2, xn2, xc2, rfl⟩, hcE⟩ := (hEA.g0 gA hg0).val
 have hlk : Hid (∀ f L, lk (f + 1) L (.mk 12 s n b l) = goA (lk f) L l) := fun f L => lk_other (by decide) (by decide) (by decide) (fun e => absurd e.1 (by decide))
 have hlp : 1 ≤ l.length := by have := (List.getElem?_eq_some_iff.1 h0).1; omega
 have hlpI : (1 : Int) ≤ (l.length : Int) := by omega
 have hsE : (preL [E]).length ≤ (preL l).length := by
  have h1 := pre_take h0
  have h2 := pre_take_le l (0 + 1)
  rw [List.take_zero, preL_nil] at h1
  simp at h1 h2
  omega
 have hcall := Lib.hid (hE (W.alloc (.cells #[.int .i64 12, .string s, .int .i64 n, .slice ba b.length bc, .slice (some ⟨g0, o0, none⟩) l.length lc] 25)).heap.size _ _ _ bs hst0.out (Nat.le_refl _) (hRE.turn (fun z hz hl => ⟨hl, rfl⟩)) (by omega) (by omega))
 have k0 : (W.alloc (.cells #[.int .i64 12, .string s, .int .i64 n, .slice ba b.length bc, .slice (some ⟨g0, o0, none⟩) l.length lc] 25)).cell? ⟨g0, o0, none⟩ = some (.int .i64 xk) := hcE 0 _ rfl
 have k1 := hcE 1 _ rfl
 have k2 := hcE 2 _ rfl
 have k3 := hcE 3 _ rfl
 have k4 := hcE 4 _ rfl
 have hg1 := World.block_lt_of_cell? _ _ k0
 have hgt0 : ∀ f L, goA (lk f) L (l.take 1) = lk f L E := fun f L => by
  have := goA_take (step := lk f) (L := L) h0
  rw [Nat.zero_add] at this
  rw [this, List.take_zero]; rfl
 have hE1 : Hid ((preL [E]).length = (preL (l.take 1)).length) := by
  have h1 := pre_take h0
  rw [List.take_zero, preL_nil, Nat.zero_add] at h1
  show _ = _
  rw [h1]; simp
 replace hgt0 := Lib.hid hgt0
 replace hsE := Lib.hid hsE
 replace hrow := Lib.hid hrow
 replace hcs := Lib.hid hcs
 replace hlen := Lib.hid hlen
 replace h4k := Lib.hid h4k
 have hgA := Lib.hid gA
 clear hR hb hll hRE hcE hEA hE h0 gA m1 m2 m3
 go_enter Tryz.func32, Tryz.ntmps32
 go_wp2_with fail
 replace htb := Lib.hid htb
 generalize W.alloc (.cells #[.int .i64 12, .string s, .int .i64 n, .slice ba b.length bc, .slice (some ⟨g0, o0, none⟩) l.length lc] 25) = W1 at hgA m4 m0 hst0 hsz1 hcall k0 k1 k2 k3 k4 hg1 ⊢
 refine hcall.out.mono ?_
 rintro e w1 ⟨v1, b1, ok1, rfl, hN1, hlb1, hs1, g1⟩
 have hm4 := Lib.hid (cell_gr m4 g1 (fun e => e))
 have hstart : Hid (∀ f L, (preL l).length ≤ f → Rl L bs → ok1 = !(goA (lk f) L (l.take 1)).1 ∧ (ok1 = true → Rl (goA (lk f) L (l.take 1)).2 b1)) := fun f L hf hL => by
  rw [hgt0.out f L]
  exact hs1 f L (by have := hsE.out; omega) hL
 have hlbC : Hid (∀ (i : Nat) (C : Tr), 1 ≤ i → i < l.length → l[i]? = some C → b1.length + (preL [C]).length ≤ bs.length + (preL l).length) := fun i C h1 _ hC => by
  have h2 := pre_take hC
  have h3 := pre_take_le l (i + 1)
  have h4 := pre_take_le (l.take i) 1
  rw [List.take_take, Nat.min_eq_left h1] at h4
  have h5 := hE1.out
  omega
 replace hlb1 : Hid (b1.length ≤ bs.length + (preL l).length) := by have := hsE.out; show _ ≤ _; omega
 obtain ⟨a1, c1, rfl⟩ := hN1.sv
 replace hN1 := Lib.hid hN1
 have y4 := hm4.out
 have htw := World.block_lt_of_cell? _ _ y4
 replace hgA := Lib.hid (hgA.out.trans g1)
 clear hs1 k0 k1 k2 k3 k4 hg1 m4 m0 hsz1 hst0 hcall g1
 have hG1 : Hid (Gr (fun _ => False) w1 w1) := Gr.refl _ _
 go_wp2_with fail
 clear y4 htw
 go_loopw [10, 13, 14, 15] (fun u10 u13 u14 u15 wr => ∃ (i : Nat) (okI : Bool), 1 ≤ i ∧ i ≤ l.length ∧ u13 = .int .i64 (i : Int) ∧ u10 = .bool okI ∧ Hid (∀ f L, (preL l).length ≤ f → Rl L bs → okI = !(goA (lk f) L (l.take i)).1 ∧ (okI = true → Rl (goA (lk f) L (l.take i)).2 b1)) ∧ Gr (fun _ => False) w1 wr) (fun _ u13 _ _ _ => l.length - (intOf u13).toNat)
 case atStart => exact ⟨1, _, Nat.le_refl _, hlp, rfl, rfl, hstart.out, Gr.refl _ _⟩
 case round =>
  obtain ⟨i, okI, hi0, hi, rfl, rfl, hSI, hG⟩ := hrel
  have hGW := hG1.out.trans hG
  have y4 := cell_gr hm4.out hGW (fun e => e)
  have htl : tb < wr.heap.size := World.block_lt_of_cell? _ _ y4
  by_cases hlt : i < l.length
  ·
   have hd : decide ((i : Int) < (l.length : Int)) = true := by simp; omega
   have hil : i < l.length := by omega
   have hiI : (i : Int) < (l.length : Int) := by omega
   have hTi : l[i]? = some l[i] := List.getElem?_eq_getElem hil
   obtain ⟨g', o', e', hg', hTA⟩ := hrow.out i _ hTi
   cases e'
   have hcl := hcs.out i _ (by omega) hTi
   have hgt := fun f L => goA_take (step := lk f) (L := L) hTi
   have htk := pre_take hTi
   have htl2 := pre_take_le l (i + 1)
   have hlC := hlbC.out i _ hi0 hlt hTi
   generalize l[i] = C at hcl hTA hgt htk hTi hlC
   obtain ⟨cs, cn, cb', P, X, rfl, hX⟩ := hcl
   rw [cl_size] at htk hlC
   obtain ⟨ba', bc', la', lc', ⟨z0, z1, z2, z3, z4⟩, hrow', hgl'⟩ := (hTA.g0 (hgA.out.trans hGW) hg').parts
   obtain ⟨gc, oc, rfl, hgc, hP⟩ := hrow' 0 P rfl
   obtain ⟨g2', o2', e2, _, hX2⟩ := hrow' 1 X rfl
   cases e2
   rw [Nat.zero_mul, Nat.add_zero] at hP
   rw [Nat.one_mul] at hX2
   rw [show [P, X].length = 2 from rfl] at z4
   obtain ⟨vP, hRP, ⟨pk, ps, pn, pa1, pn1, pc1, pa2, pn2, pc2, rfl⟩, hcP⟩ := hP.val
   obtain ⟨vX, hRX, ⟨xk, xs, xn, xa1, xn1, xc1, xa2, xn2, xc2, rfl⟩, hcX⟩ := hX2.val
   have gd := Gr.drew wr (fun _ => False)
   have kX0 : wr.drew.cell? ⟨gc, oc + 5, none⟩ = some (.int .i64 xk) := cell_gr (hcX 0 _ rfl) gd (fun e => e)
   have kX1 := cell_gr (hcX 1 _ rfl) gd (fun e => e)
   have kX2 := cell_gr (hcX 2 _ rfl) gd (fun e => e)
   have kX3 := cell_gr (hcX 3 _ rfl) gd (fun e => e)
   have kX4 := cell_gr (hcX 4 _ rfl) gd (fun e => e)
   have kP0 : wr.drew.cell? ⟨gc, oc, none⟩ = some (.int .i64 pk) := cell_gr (hcP 0 _ rfl) gd (fun e => e)
   have kP1 := cell_gr (hcP 1 _ rfl) gd (fun e => e)
   have kP2 := cell_gr (hcP 2 _ rfl) gd (fun e => e)
   have kP3 := cell_gr (hcP 3 _ rfl) gd (fun e => e)
   have kP4 := cell_gr (hcP 4 _ rfl) gd (fun e => e)
   have yd4 := cell_gr y4 gd (fun e => e)
   have zd4 := cell_gr z4 gd (fun e => e)
   have hb1r : Nr wr.heap.size wr (.slice a1 b1.length c1) b1 := (hN1.out.g0 hG).up hG.size
   have hcv := Lib.hid (fun w (gw : Gr (fun _ => False) wr w) => rvars_c w.heap.size w _ b1 _ P ((hb1r.g0 gw).up gw.size) (Nat.le_refl _) (hRP.turn (A' := fun z => z < w.heap.size) (fun z hz hl => ⟨Nat.lt_of_lt_of_le hl gw.size, gw.block z hl (fun e => e)⟩)) (by have := h4k.out; omega) (by have := hlen.out; omega))
   have hvl := vrL_len (preL [P]) b1
   have hcx := Lib.hid (fun w (gw : Gr (fun _ => False) wr w) vb' (hb' : Nr w.heap.size w vb' (vrL b1 (preL [P]))) => hX w.heap.size w vb' _ _ hb' (Nat.le_refl _) (hRX.turn (A' := fun z => z < w.heap.size) (fun z hz hl => ⟨Nat.lt_of_lt_of_le hl gw.size, gw.block z hl (fun e => e)⟩)) (by have := hlen.out; omega) (by have := h4k.out; omega))
   have hstep := (fun (ok : Bool) b' (h : ∀ f L, (preL [X]).length ≤ f → Rl L (vrL b1 (preL [P])) → ok = !(lk f L X).1 ∧ (ok = true → Rl (lk f L X).2 b')) => show ∀ f L, (preL l).length ≤ f → Rl L bs → (okI && ok) = !(goA (lk f) L (l.take (i + 1))).1 ∧ ((okI && ok) = true → Rl (goA (lk f) L (l.take (i + 1))).2 b1) from fun f L hf hL => by
    obtain ⟨h1, h2⟩ := hSI.out f L hf hL
    rw [hgt f L]
    cases hq : (goA (lk f) L (l.take i)).1 with
    | true => rw [hq] at h1; rw [h1]; exact ⟨rfl, fun e => by cases e⟩
    | false =>
     rw [hq] at h1
     have h1' : okI = true := h1
     have h3 := h2 h1'
     rw [if_neg (by decide), h1', Bool.true_and]
     cases f with
     | zero => omega
     | succ f =>
      rw [lk_cl]
      obtain ⟨h5, _⟩ := h f _ (by omega) (Rl.fp (preL [P]) h3)
      exact ⟨h5, fun _ => h3⟩)
   replace hstep := Lib.hid hstep
   have hb := Lib.hid hi
   have hb0 := Lib.hid hi0
   replace hlt := Lib.hid hlt
   clear hTA hTi hrow' hP hX2 hRP hRX hcP hcX hgt htk htl2 hSI hb1r hvl z0 z1 z2 z3 z4 hX
   go_wp2_with fail
   have TS : Gr (fun _ => False) wr.drew wr.drew := Gr.refl _ _
   refine wp_region_L (L := 100) (T := fun w => Gr (fun _ => False) wr.drew w) (by kernel_rfl) ?_
   refine wpAnyN_at (i := 0) (v := .slice a1 b1.length c1) (some 117) rfl rfl (by kernel_rfl) (by kernel_rfl) (by kernel_rfl) (by kernel_rfl) (fun _ _ _ h => h) (Or.inl ⟨by rfl, ?_⟩) TS ?_
   · intro w hSw
     go_simp
   try simp only [Act.put, sa1, sa2, sa3]
   refine wpAnyN_at (i := 1) (v := ptr tb 4) (some 118) rfl rfl (by kernel_rfl) (by kernel_rfl) (by kernel_rfl) (by kernel_rfl) (fun _ _ _ h => h) (Or.inl ⟨by rfl, ?_⟩) TS ?_
   · intro w hSw
     go_simp
   try simp only [Act.put, sa1, sa2, sa3]
   refine wpAnyN_at (i := 2) (v := .slice (some ⟨g0, o0, none⟩) l.length lc) (some 119) rfl rfl (by kernel_rfl) (by kernel_rfl) (by kernel_rfl) (by kernel_rfl) (fun _ _ _ h => h) (Or.inl ⟨by rfl, ?_⟩) TS ?_
   · intro w hSw
     have q0 := cell_gr yd4 hSw (fun e => e)
     have qz := World.block_lt_of_cell? _ _ q0
     go_simp
   try simp only [Act.put, sa1, sa2, sa3]
   refine wpAnyN_at (i := 3) (v := .int .i64 (i : Int)) (some 120) rfl rfl (by kernel_rfl) (by kernel_rfl) (by kernel_rfl) (by kernel_rfl) (fun _ _ _ h => h) (Or.inl ⟨by rfl, ?_⟩) TS ?_
   · intro w hSw
     go_simp
   try simp only [Act.put, sa1, sa2, sa3]
   refine wpAnyN_at (i := 4) (v := ptr g0 (o0 + i * 5)) (some 121) rfl rfl (by kernel_rfl) (by kernel_rfl) (by kernel_rfl) (by kernel_rfl) (fun _ _ _ h => h) (Or.inl ⟨by rfl, ?_⟩) TS ?_
   · intro w hSw
     go_simp
   try simp only [Act.put, sa1, sa2, sa3]
   refine wpAnyN_at (i := 5) (v := ptr g0 (o0 + i * 5 + 4)) (some 122) rfl rfl (by kernel_rfl) (by kernel_rfl) (by kernel_rfl) (by kernel_rfl) (fun _ _ _ h => h) (Or.inl ⟨by rfl, ?_⟩) TS ?_
   · intro w hSw
     have q0 := cell_gr zd4 hSw (fun e => e)
     have qz := World.block_lt_of_cell? _ _ q0
     go_simp
   try simp only [Act.put, sa1, sa2, sa3]
   refine wpAnyN_at (i := 6) (v := .slice (some ⟨gc, oc, none⟩) 2 lc') (some 123) rfl rfl (by kernel_rfl) (by kernel_rfl) (by kernel_rfl) (by kernel_rfl) (fun _ _ _ h => h) (Or.inl ⟨by rfl, ?_⟩) TS ?_
   · intro w hSw
     have q0 := cell_gr zd4 hSw (fun e => e)
     have qz := World.block_lt_of_cell? _ _ q0
     go_simp
   try simp only [Act.put, sa1, sa2, sa3]
   refine wpAnyN_at (i := 7) (v := ptr gc oc) (some 124) rfl rfl (by kernel_rfl) (by kernel_rfl) (by kernel_rfl) (by kernel_rfl) (fun _ _ _ h => h) (Or.inl ⟨by rfl, ?_⟩) TS ?_
   · intro w hSw
     go_simp
   try simp only [Act.put, sa1, sa2, sa3]
   refine wpAnyN_at (i := 8) (v := trv pk ps pn (.slice pa1 pn1 pc1) (.slice pa2 pn2 pc2)) (some 125) rfl rfl (by kernel_rfl) (by kernel_rfl) (by kernel_rfl) (by kernel_rfl) (fun _ _ _ h => h) (Or.inl ⟨by rfl, ?_⟩) TS ?_
   ·
    intro w hSw
    have q0 := cell_gr kP0 hSw (fun e => e)
    have q1 := cell_gr kP1 hSw (fun e => e)
    have q2 := cell_gr kP2 hSw (fun e => e)
    have q3 := cell_gr kP3 hSw (fun e => e)
    have q4 := cell_gr kP4 hSw (fun e => e)
    have qz := World.block_lt_of_cell? _ _ q0
    go_simp
   try simp only [Act.put, sa1, sa2, sa3]
   refine wpAnyN_at (i := 10) (v := ptr tb 4) (some 127) rfl rfl (by kernel_rfl) (by kernel_rfl) (by kernel_rfl) (by kernel_rfl) (fun _ _ _ h => h) (Or.inl ⟨by rfl, ?_⟩) TS ?_
   · intro w hSw
     go_simp
   try simp only [Act.put, sa1, sa2, sa3]
   refine wpAnyN_at (i := 11) (v := .slice (some ⟨g0, o0, none⟩) l.length lc) (some 128) rfl rfl (by kernel_rfl) (by kernel_rfl) (by kernel_rfl) (by kernel_rfl) (fun _ _ _ h => h) (Or.inl ⟨by rfl, ?_⟩) TS ?_
   · intro w hSw
     have q0 := cell_gr yd4 hSw (fun e => e)
     have qz := World.block_lt_of_cell? _ _ q0
     go_simp
   try simp only [Act.put, sa1, sa2, sa3]
   refine wpAnyN_at (i := 12) (v := .int .i64 (i : Int)) (some 129) rfl rfl (by kernel_rfl) (by kernel_rfl) (by kernel_rfl) (by kernel_rfl) (fun _ _ _ h => h) (Or.inl ⟨by rfl, ?_⟩) TS ?_
   · intro w hSw
     go_simp
   try simp only [Act.put, sa1, sa2, sa3]
   refine wpAnyN_at (i := 13) (v := ptr g0 (o0 + i * 5)) (some 130) rfl rfl (by kernel_rfl) (by kernel_rfl) (by kernel_rfl) (by kernel_rfl) (fun _ _ _ h => h) (Or.inl ⟨by rfl, ?_⟩) TS ?_
   · intro w hSw
     go_simp
   try simp only [Act.put, sa1, sa2, sa3]
   refine wpAnyN_at (i := 14) (v := ptr g0 (o0 + i * 5 + 4)) (some 131) rfl rfl (by kernel_rfl) (by kernel_rfl) (by kernel_rfl) (by kernel_rfl) (fun _ _ _ h => h) (Or.inl ⟨by rfl, ?_⟩) TS ?_
   · intro w hSw
     have q0 := cell_gr zd4 hSw (fun e => e)
     have qz := World.block_lt_of_cell? _ _ q0
     go_simp
   try simp only [Act.put, sa1, sa2, sa3]
   refine wpAnyN_at (i := 15) (v := .slice (some ⟨gc, oc, none⟩) 2 lc') (some 132) rfl rfl (by kernel_rfl) (by kernel_rfl) (by kernel_rfl) (by kernel_rfl) (fun _ _ _ h => h) (Or.inl ⟨by rfl, ?_⟩) TS ?_
   · intro w hSw
     have q0 := cell_gr zd4 hSw (fun e => e)
     have qz := World.block_lt_of_cell? _ _ q0
     go_simp
   try simp only [Act.put, sa1, sa2, sa3]
   refine wpAnyN_at (i := 16) (v := ptr gc (oc + 5)) (some 133) rfl rfl (by kernel_rfl) (by kernel_rfl) (by kernel_rfl) (by kernel_rfl) (fun _ _ _ h => h) (Or.inl ⟨by rfl, ?_⟩) TS ?_
   · intro w hSw
     go_simp
   try simp only [Act.put, sa1, sa2, sa3]
   refine wpAnyN_at (i := 17) (v := trv xk xs xn (.slice xa1 xn1 xc1) (.slice xa2 xn2 xc2)) (some 134) rfl rfl (by kernel_rfl) (by kernel_rfl) (by kernel_rfl) (by kernel_rfl) (fun _ _ _ h => h) (Or.inl ⟨by rfl, ?_⟩) TS ?_
   ·
    intro w hSw
    have q0 := cell_gr kX0 hSw (fun e => e)
    have q1 := cell_gr kX1 hSw (fun e => e)
    have q2 := cell_gr kX2 hSw (fun e => e)
    have q3 := cell_gr kX3 hSw (fun e => e)
    have q4 := cell_gr kX4 hSw (fun e => e)
    have qz := World.block_lt_of_cell? _ _ q0
    go_simp
   try simp only [Act.put, sa1, sa2, sa3]
   refine wpAnyL_one (i := 9) (by kernel_rfl) rfl (fun K hK => ?_)
   go_simp
   refine (hcv.out _ gd).mono ?_
   rintro e w2 ⟨v2, rfl, hN2, g2⟩
   have TS : Gr (fun _ => False) wr.drew w2 := g2
   have G2 := gd.trans g2
   have hcx2 := Lib.hid (hcx.out w2 G2 v2 hN2)
   refine hK.out _ _ (fun _ => TS) ?_
   clear hK K
   try simp only [Act.put, sa1, sa2, sa3]
   refine wpAnyL_one (i := 18) (by kernel_rfl) rfl (fun K hK => ?_)
   go_simp
   refine hcx2.out.mono ?_
   rintro e w3 ⟨v3, b3, ok3, rfl, hN3, hl3, hs3, g3⟩
   have TS : Gr (fun _ => False) wr.drew w3 := TS.trans g3
   have G3 := G2.trans g3
   have h7 := Lib.hid (hstep.out ok3 b3 hs3)
   obtain ⟨a3, c3, rfl⟩ := hN3.sv
   refine hK.out _ _ (fun _ => TS) ?_
   clear hK K hs3
   try simp only [Act.put, sa1, sa2, sa3]
   refine wpAnyL_one (i := 19) (by kernel_rfl) rfl (fun K hK => ?_)
   go_simp
   refine hK.out _ _ (fun _ => TS) ?_
   clear hK K
   try simp only [Act.put, sa1, sa2, sa3]
   refine wpAnyN_at (i := 20) (v := .slice a3 b3.length c3) (some 136) rfl rfl (by kernel_rfl) (by kernel_rfl) (by kernel_rfl) (by kernel_rfl) (fun _ _ _ h => h) (Or.inl ⟨by rfl, ?_⟩) TS ?_
   · intro w hSw
     go_simp
   try simp only [Act.put, sa1, sa2, sa3]
   refine wpAnyN_at (i := 21) (v := .bool ok3) (some 137) rfl rfl (by kernel_rfl) (by kernel_rfl) (by kernel_rfl) (by kernel_rfl) (fun _ _ _ h => h) (Or.inl ⟨by rfl, ?_⟩) TS ?_
   · intro w hSw
     go_simp
   try simp only [Act.put, sa1, sa2, sa3]
   refine wpAnyN_at (i := 22) (v := .slice a3 b3.length c3) (some 14) rfl rfl (by kernel_rfl) (by kernel_rfl) (by kernel_rfl) (by kernel_rfl) (fun _ _ _ h => h) (Or.inl ⟨by rfl, ?_⟩) TS ?_
   · intro w hSw
     go_simp
   try simp only [Act.put, sa1, sa2, sa3]
   refine wpAnyN_at (i := 23) (v := .bool ok3) (some 15) rfl rfl (by kernel_rfl) (by kernel_rfl) (by kernel_rfl) (by kernel_rfl) (fun _ _ _ h => h) (Or.inl ⟨by rfl, ?_⟩) TS ?_
   · intro w hSw
     go_simp
   try simp only [Act.put, sa1, sa2, sa3]
   refine wpAnyL_done (by kernel_rfl) ?_ _
   refine NoPanic.normal ?_
   clear TS kX0 kX1 kX2 kX3 kX4 kP0 kP1 kP2 kP3 kP4 yd4 zd4 hN3 g3 G2 hN2 g2
   have hlt' := hlt.out
   have hb0' := hb0.out
   clear hcx2 hcx hcv
   cases okI
   all_goals
    go_wp2_with fail
    exact ⟨⟨i + 1, _, by omega, by omega, by go_num, rfl, by first | exact h7 | simpa using h7, hG.trans G3⟩, by simp [intOf]; omega⟩
  ·
   have hd : decide ((i : Int) < (l.length : Int)) = false := by simp; omega
   have hie : i = l.length := by omega
   have hfin : Hid (∀ f L, (preL [Tr.mk 12 s n b l]).length ≤ f → Rl L bs → okI = !(lk f L (.mk 12 s n b l)).1 ∧ (okI = true → Rl (lk f L (.mk 12 s n b l)).2 b1)) := by
    have h1 := hSI.out
    rw [hie, List.take_length] at h1
    intro f L hf hL
    rw [pre_mk] at hf
    cases f with
    | zero => omega
    | succ f => rw [hlk.out]; exact h1 f L (by omega) hL
   have hb1r := (hN1.out.g0 hG).up hG.size
   have hlb : Hid (b1.length ≤ bs.length + (preL [Tr.mk 12 s n b l]).length) := by
    have := hlb1.out
    show _ ≤ _
    rw [pre_mk]; omega
   clear hie hSI
   go_wp2_with fail
   go_ret2
   exact EdB.mk _ b1 okI rfl hb1r hlb.out hfin.out ((hgA.out.trans hG1.out).trans hG)
set_option maxRecDepth 100000 in
set_option maxHeartbeats 3200000 in
theorem bd13a (s : ByteArray) (n : Int) (b : List Int) (l : List Tr) (haf : aftV l = false) (hlp : 1 ≤ l.length) (hcs : ∀ (i : Nat) (C : Tr), l[i]? = some C → ClR C) : BdR (.mk 13 s n b l) := by
 intro N W vb v bs hb hN hR hlen h4k
 rw [pre_mk] at hlen h4k
 obtain ⟨ba, bc, la, lc, rfl, hrow⟩ := rep_row hR
 have hNr := hb.up hN
 obtain ⟨ab, cb, rfl⟩ := hb.sv
 have hll := preL_len l
 have hlI : (l.length : Int) ≤ 30000 := by omega
 have gA := Gr.alloc W (.cells #[.int .i64 13, .string s, .int .i64 n, .slice ba b.length bc, .slice la l.length lc] 25) (fun _ => False)
 obtain ⟨⟨m0, m1, m2, m3, m4⟩, _⟩ := five_cells (heap_alloc_new W (.cells #[.int .i64 13, .string s, .int .i64 n, .slice ba b.length bc, .slice la l.length lc] 25))
 have hsz1 : (W.alloc (.cells #[.int .i64 13, .string s, .int .i64 n, .slice ba b.length bc, .slice la l.length lc] 25)).heap.size = W.heap.size + 1 := by simp
 have hst0 := Lib.hid ((hNr.g0 gA).up gA.size)
 obtain ⟨tb, htb⟩ : ∃ tb, W.heap.size = tb := ⟨_, rfl⟩
 rw [htb] at m0 m1 m2 m3 m4 hsz1 hN
 obtain ⟨m, hm⟩ : ∃ m, l.length - 1 = m := ⟨_, rfl⟩
 have hmI : (l.length : Int) - 1 = (m : Int) := by omega
 have hml : m < l.length := by omega
 have hmlI : (m : Int) < (l.length : Int) := by omega
 have hTm : l[m]? = some l[m] := List.getElem?_eq_getElem hml
 obtain ⟨g0, o0, rfl, hg0, hEA⟩ := hrow m _ hTm
 have hclm := hcs m _ hTm
 generalize l[m] = Em at hEA hclm
 obtain ⟨_, _, _, _, _, rfl, _⟩ := hclm
 obtain ⟨_, _, _, _, ⟨k0, _⟩, _, hg1⟩ := (hEA.g0 gA hg0).parts
 have hlk : Hid (∀ f L, lk (f + 1) L (.mk 13 s n b l) = goA (lk f) L l) := fun f L => lk_other (by decide) (by decide) (by decide) (fun e => by rw [haf] at e; exact absurd e.2 (by decide))
 have hlpI : (1 : Int) ≤ (l.length : Int) := by omega
 have hlb1 : Hid (bs.length ≤ bs.length + (preL l).length) := Nat.le_add_right _ _
 have hlbC : Hid (∀ (i : Nat) (C : Tr), 0 ≤ i → i < l.length → l[i]? = some C → bs.length + (preL [C]).length ≤ bs.length + (preL l).length) := fun i C _ _ hC => by
  have h2 := pre_take hC
  have h3 := pre_take_le l (i + 1)
  omega
 replace hrow := Lib.hid hrow
 replace hcs := Lib.hid hcs
 replace hlen := Lib.hid hlen
 replace h4k := Lib.hid h4k
 replace hm := Lib.hid hm
 have hgA := Lib.hid gA
 clear hR hb hll hEA gA m1 m2 m3 hTm haf
 go_enter Tryz.func32, Tryz.ntmps32
 go_wp2_with fail
 replace htb := Lib.hid htb
 generalize W.alloc (.cells #[.int .i64 13, .string s, .int .i64 n, .slice ba b.length bc, .slice (some ⟨g0, o0, none⟩) l.length lc] 25) = w1 at hgA m4 m0 hst0 hsz1 k0 hg1 ⊢
 have hm4 := Lib.hid m4
 have hstart : Hid (∀ f L, (preL l).length ≤ f → Rl L bs → true = !(goA (lk f) L (l.take 0)).1 ∧ (true = true → Rl (goA (lk f) L (l.take 0)).2 bs)) := fun f L hf hL => ⟨rfl, fun _ => hL⟩
 have hN1 := hst0
 clear k0 hg1 m4 m0 hsz1 hst0 hmI hmlI hml
 have hG1 : Hid (Gr (fun _ => False) w1 w1) := Gr.refl _ _
 go_loopw [10, 13, 14, 15] (fun u10 u13 u14 u15 wr => ∃ (i : Nat) (okI : Bool), 0 ≤ i ∧ i ≤ l.length ∧ u13 = .int .i64 (i : Int) ∧ u10 = .bool okI ∧ Hid (∀ f L, (preL l).length ≤ f → Rl L bs → okI = !(goA (lk f) L (l.take i)).1 ∧ (okI = true → Rl (goA (lk f) L (l.take i)).2 bs)) ∧ Gr (fun _ => False) w1 wr) (fun _ u13 _ _ _ => l.length - (intOf u13).toNat)
 case atStart => exact ⟨0, _, Nat.le_refl _, Nat.zero_le _, rfl, rfl, hstart.out, Gr.refl _ _⟩
 case round =>
  obtain ⟨i, okI, hi0, hi, rfl, rfl, hSI, hG⟩ := hrel
  have hGW := hG1.out.trans hG
  have y4 := cell_gr hm4.out hGW (fun e => e)
  have htl : tb < wr.heap.size := World.block_lt_of_cell? _ _ y4
  by_cases hlt : i < l.length
  ·
   have hd : decide ((i : Int) < (l.length : Int)) = true := by simp; omega
   have hil : i < l.length := by omega
   have hiI : (i : Int) < (l.length : Int) := by omega
   have hTi : l[i]? = some l[i] := List.getElem?_eq_getElem hil
   obtain ⟨g', o', e', hg', hTA⟩ := hrow.out i _ hTi
   cases e'
   have hcl := hcs.out i _ hTi
   have hgt := fun f L => goA_take (step := lk f) (L := L) hTi
   have htk := pre_take hTi
   have htl2 := pre_take_le l (i + 1)
   have hlC := hlbC.out i _ hi0 hlt hTi
   generalize l[i] = C at hcl hTA hgt htk hTi hlC
   obtain ⟨cs, cn, cb', P, X, rfl, hX⟩ := hcl
   rw [cl_size] at htk hlC
   obtain ⟨ba', bc', la', lc', ⟨z0, z1, z2, z3, z4⟩, hrow', hgl'⟩ := (hTA.g0 (hgA.out.trans hGW) hg').parts
   obtain ⟨gc, oc, rfl, hgc, hP⟩ := hrow' 0 P rfl
   obtain ⟨g2', o2', e2, _, hX2⟩ := hrow' 1 X rfl
   cases e2
   rw [Nat.zero_mul, Nat.add_zero] at hP
   rw [Nat.one_mul] at hX2
   rw [show [P, X].length = 2 from rfl] at z4
   obtain ⟨vP, hRP, ⟨pk, ps, pn, pa1, pn1, pc1, pa2, pn2, pc2, rfl⟩, hcP⟩ := hP.val
   obtain ⟨vX, hRX, ⟨xk, xs, xn, xa1, xn1, xc1, xa2, xn2, xc2, rfl⟩, hcX⟩ := hX2.val
   have gd := Gr.drew wr (fun _ => False)
   have kX0 : wr.drew.cell? ⟨gc, oc + 5, none⟩ = some (.int .i64 xk) := cell_gr (hcX 0 _ rfl) gd (fun e => e)
   have kX1 := cell_gr (hcX 1 _ rfl) gd (fun e => e)
   have kX2 := cell_gr (hcX 2 _ rfl) gd (fun e => e)
   have kX3 := cell_gr (hcX 3 _ rfl) gd (fun e => e)
   have kX4 := cell_gr (hcX 4 _ rfl) gd (fun e => e)
   have kP0 : wr.drew.cell? ⟨gc, oc, none⟩ = some (.int .i64 pk) := cell_gr (hcP 0 _ rfl) gd (fun e => e)
   have kP1 := cell_gr (hcP 1 _ rfl) gd (fun e => e)
   have kP2 := cell_gr (hcP 2 _ rfl) gd (fun e => e)
   have kP3 := cell_gr (hcP 3 _ rfl) gd (fun e => e)
   have kP4 := cell_gr (hcP 4 _ rfl) gd (fun e => e)
   have yd4 := cell_gr y4 gd (fun e => e)
   have zd4 := cell_gr z4 gd (fun e => e)
   have hb1r : Nr wr.heap.size wr (.slice ab bs.length cb) bs := (hN1.out.g0 hG).up hG.size
   have hcv := Lib.hid (fun w (gw : Gr (fun _ => False) wr w) => rvars_c w.heap.size w _ bs _ P ((hb1r.g0 gw).up gw.size) (Nat.le_refl _) (hRP.turn (A' := fun z => z < w.heap.size) (fun z hz hl => ⟨Nat.lt_of_lt_of_le hl gw.size, gw.block z hl (fun e => e)⟩)) (by have := h4k.out; omega) (by have := hlen.out; omega))
   have hvl := vrL_len (preL [P]) bs
   have hcx := Lib.hid (fun w (gw : Gr (fun _ => False) wr w) vb' (hb' : Nr w.heap.size w vb' (vrL bs (preL [P]))) => hX w.heap.size w vb' _ _ hb' (Nat.le_refl _) (hRX.turn (A' := fun z => z < w.heap.size) (fun z hz hl => ⟨Nat.lt_of_lt_of_le hl gw.size, gw.block z hl (fun e => e)⟩)) (by have := hlen.out; omega) (by have := h4k.out; omega))
   have hstep := (fun (ok : Bool) b' (h : ∀ f L, (preL [X]).length ≤ f → Rl L (vrL bs (preL [P])) → ok = !(lk f L X).1 ∧ (ok = true → Rl (lk f L X).2 b')) => show ∀ f L, (preL l).length ≤ f → Rl L bs → (okI && ok) = !(goA (lk f) L (l.take (i + 1))).1 ∧ ((okI && ok) = true → Rl (goA (lk f) L (l.take (i + 1))).2 bs) from fun f L hf hL => by
    obtain ⟨h1, h2⟩ := hSI.out f L hf hL
    rw [hgt f L]
    cases hq : (goA (lk f) L (l.take i)).1 with
    | true => rw [hq] at h1; rw [h1]; exact ⟨rfl, fun e => by cases e⟩
    | false =>
     rw [hq] at h1
     have h1' : okI = true := h1
     have h3 := h2 h1'
     rw [if_neg (by decide), h1', Bool.true_and]
     cases f with
     | zero => omega
     | succ f =>
      rw [lk_cl]
      obtain ⟨h5, _⟩ := h f _ (by omega) (Rl.fp (preL [P]) h3)
      exact ⟨h5, fun _ => h3⟩)
   replace hstep := Lib.hid hstep
   have hb := Lib.hid hi
   have hb0 := Lib.hid hi0
   replace hlt := Lib.hid hlt
   clear hTA hTi hrow' hP hX2 hRP hRX hcP hcX hgt htk htl2 hSI hb1r hvl z0 z1 z2 z3 z4 hX
   go_wp2_with fail
   have TS : Gr (fun _ => False) wr.drew wr.drew := Gr.refl _ _
   refine wp_region_L (L := 100) (T := fun w => Gr (fun _ => False) wr.drew w) (by kernel_rfl) ?_
   refine wpAnyN_at (i := 0) (v := .slice ab bs.length cb) (some 117) rfl rfl (by kernel_rfl) (by kernel_rfl) (by kernel_rfl) (by kernel_rfl) (fun _ _ _ h => h) (Or.inl ⟨by rfl, ?_⟩) TS ?_
   · intro w hSw
     go_simp
   try simp only [Act.put, sa1, sa2, sa3]
   refine wpAnyN_at (i := 1) (v := ptr tb 4) (some 118) rfl rfl (by kernel_rfl) (by kernel_rfl) (by kernel_rfl) (by kernel_rfl) (fun _ _ _ h => h) (Or.inl ⟨by rfl, ?_⟩) TS ?_
   · intro w hSw
     go_simp
   try simp only [Act.put, sa1, sa2, sa3]
   refine wpAnyN_at (i := 2) (v := .slice (some ⟨g0, o0, none⟩) l.length lc) (some 119) rfl rfl (by kernel_rfl) (by kernel_rfl) (by kernel_rfl) (by kernel_rfl) (fun _ _ _ h => h) (Or.inl ⟨by rfl, ?_⟩) TS ?_
   · intro w hSw
     have q0 := cell_gr yd4 hSw (fun e => e)
     have qz := World.block_lt_of_cell? _ _ q0
     go_simp
   try simp only [Act.put, sa1, sa2, sa3]
   refine wpAnyN_at (i := 3) (v := .int .i64 (i : Int)) (some 120) rfl rfl (by kernel_rfl) (by kernel_rfl) (by kernel_rfl) (by kernel_rfl) (fun _ _ _ h => h) (Or.inl ⟨by rfl, ?_⟩) TS ?_
   · intro w hSw
     go_simp
   try simp only [Act.put, sa1, sa2, sa3]
   refine wpAnyN_at (i := 4) (v := ptr g0 (o0 + i * 5)) (some 121) rfl rfl (by kernel_rfl) (by kernel_rfl) (by kernel_rfl) (by kernel_rfl) (fun _ _ _ h => h) (Or.inl ⟨by rfl, ?_⟩) TS ?_
   · intro w hSw
     go_simp
   try simp only [Act.put, sa1, sa2, sa3]
   refine wpAnyN_at (i := 5) (v := ptr g0 (o0 + i * 5 + 4)) (some 122) rfl rfl (by kernel_rfl) (by kernel_rfl) (by kernel_rfl) (by kernel_rfl) (fun _ _ _ h => h) (Or.inl ⟨by rfl, ?_⟩) TS ?_
   · intro w hSw
     have q0 := cell_gr zd4 hSw (fun e => e)
     have qz := World.block_lt_of_cell? _ _ q0
     go_simp
   try simp only [Act.put, sa1, sa2, sa3]
   refine wpAnyN_at (i := 6) (v := .slice (some ⟨gc, oc, none⟩) 2 lc') (some 123) rfl rfl (by kernel_rfl) (by kernel_rfl) (by kernel_rfl) (by kernel_rfl) (fun _ _ _ h => h) (Or.inl ⟨by rfl, ?_⟩) TS ?_
   · intro w hSw
     have q0 := cell_gr zd4 hSw (fun e => e)
     have qz := World.block_lt_of_cell? _ _ q0
     go_simp
   try simp only [Act.put, sa1, sa2, sa3]
   refine wpAnyN_at (i := 7) (v := ptr gc oc) (some 124) rfl rfl (by kernel_rfl) (by kernel_rfl) (by kernel_rfl) (by kernel_rfl) (fun _ _ _ h => h) (Or.inl ⟨by rfl, ?_⟩) TS ?_
   · intro w hSw
     go_simp
   try simp only [Act.put, sa1, sa2, sa3]
   refine wpAnyN_at (i := 8) (v := trv pk ps pn (.slice pa1 pn1 pc1) (.slice pa2 pn2 pc2)) (some 125) rfl rfl (by kernel_rfl) (by kernel_rfl) (by kernel_rfl) (by kernel_rfl) (fun _ _ _ h => h) (Or.inl ⟨by rfl, ?_⟩) TS ?_
   ·
    intro w hSw
    have q0 := cell_gr kP0 hSw (fun e => e)
    have q1 := cell_gr kP1 hSw (fun e => e)
    have q2 := cell_gr kP2 hSw (fun e => e)
    have q3 := cell_gr kP3 hSw (fun e => e)
    have q4 := cell_gr kP4 hSw (fun e => e)
    have qz := World.block_lt_of_cell? _ _ q0
    go_simp
   try simp only [Act.put, sa1, sa2, sa3]
   refine wpAnyN_at (i := 10) (v := ptr tb 4) (some 127) rfl rfl (by kernel_rfl) (by kernel_rfl) (by kernel_rfl) (by kernel_rfl) (fun _ _ _ h => h) (Or.inl ⟨by rfl, ?_⟩) TS ?_
   · intro w hSw
     go_simp
   try simp only [Act.put, sa1, sa2, sa3]
   refine wpAnyN_at (i := 11) (v := .slice (some ⟨g0, o0, none⟩) l.length lc) (some 128) rfl rfl (by kernel_rfl) (by kernel_rfl) (by kernel_rfl) (by kernel_rfl) (fun _ _ _ h => h) (Or.inl ⟨by rfl, ?_⟩) TS ?_
   · intro w hSw
     have q0 := cell_gr yd4 hSw (fun e => e)
     have qz := World.block_lt_of_cell? _ _ q0
     go_simp
   try simp only [Act.put, sa1, sa2, sa3]
   refine wpAnyN_at (i := 12) (v := .int .i64 (i : Int)) (some 129) rfl rfl (by kernel_rfl) (by kernel_rfl) (by kernel_rfl) (by kernel_rfl) (fun _ _ _ h => h) (Or.inl ⟨by rfl, ?_⟩) TS ?_
   · intro w hSw
     go_simp
   try simp only [Act.put, sa1, sa2, sa3]
   refine wpAnyN_at (i := 13) (v := ptr g0 (o0 + i * 5)) (some 130) rfl rfl (by kernel_rfl) (by kernel_rfl) (by kernel_rfl) (by kernel_rfl) (fun _ _ _ h => h) (Or.inl ⟨by rfl, ?_⟩) TS ?_
   · intro w hSw
     go_simp
   try simp only [Act.put, sa1, sa2, sa3]
   refine wpAnyN_at (i := 14) (v := ptr g0 (o0 + i * 5 + 4)) (some 131) rfl rfl (by kernel_rfl) (by kernel_rfl) (by kernel_rfl) (by kernel_rfl) (fun _ _ _ h => h) (Or.inl ⟨by rfl, ?_⟩) TS ?_
   · intro w hSw
     have q0 := cell_gr zd4 hSw (fun e => e)
     have qz := World.block_lt_of_cell? _ _ q0
     go_simp
   try simp only [Act.put, sa1, sa2, sa3]
   refine wpAnyN_at (i := 15) (v := .slice (some ⟨gc, oc, none⟩) 2 lc') (some 132) rfl rfl (by kernel_rfl) (by kernel_rfl) (by kernel_rfl) (by kernel_rfl) (fun _ _ _ h => h) (Or.inl ⟨by rfl, ?_⟩) TS ?_
   · intro w hSw
     have q0 := cell_gr zd4 hSw (fun e => e)
     have qz := World.block_lt_of_cell? _ _ q0
     go_simp
   try simp only [Act.put, sa1, sa2, sa3]
   refine wpAnyN_at (i := 16) (v := ptr gc (oc + 5)) (some 133) rfl rfl (by kernel_rfl) (by kernel_rfl) (by kernel_rfl) (by kernel_rfl) (fun _ _ _ h => h) (Or.inl ⟨by rfl, ?_⟩) TS ?_
   · intro w hSw
     go_simp
   try simp only [Act.put, sa1, sa2, sa3]
   refine wpAnyN_at (i := 17) (v := trv xk xs xn (.slice xa1 xn1 xc1) (.slice xa2 xn2 xc2)) (some 134) rfl rfl (by kernel_rfl) (by kernel_rfl) (by kernel_rfl) (by kernel_rfl) (fun _ _ _ h => h) (Or.inl ⟨by rfl, ?_⟩) TS ?_
   ·
    intro w hSw
    have q0 := cell_gr kX0 hSw (fun e => e)
    have q1 := cell_gr kX1 hSw (fun e => e)
    have q2 := cell_gr kX2 hSw (fun e => e)
    have q3 := cell_gr kX3 hSw (fun e => e)
    have q4 := cell_gr kX4 hSw (fun e => e)
    have qz := World.block_lt_of_cell? _ _ q0
    go_simp
   try simp only [Act.put, sa1, sa2, sa3]
   refine wpAnyL_one (i := 9) (by kernel_rfl) rfl (fun K hK => ?_)
   go_simp
   refine (hcv.out _ gd).mono ?_
   rintro e w2 ⟨v2, rfl, hN2, g2⟩
   have TS : Gr (fun _ => False) wr.drew w2 := g2
   have G2 := gd.trans g2
   have hcx2 := Lib.hid (hcx.out w2 G2 v2 hN2)
   refine hK.out _ _ (fun _ => TS) ?_
   clear hK K
   try simp only [Act.put, sa1, sa2, sa3]
   refine wpAnyL_one (i := 18) (by kernel_rfl) rfl (fun K hK => ?_)
   go_simp
   refine hcx2.out.mono ?_
   rintro e w3 ⟨v3, b3, ok3, rfl, hN3, hl3, hs3, g3⟩
   have TS : Gr (fun _ => False) wr.drew w3 := TS.trans g3
   have G3 := G2.trans g3
   have h7 := Lib.hid (hstep.out ok3 b3 hs3)
   obtain ⟨a3, c3, rfl⟩ := hN3.sv
   refine hK.out _ _ (fun _ => TS) ?_
   clear hK K hs3
   try simp only [Act.put, sa1, sa2, sa3]
   refine wpAnyL_one (i := 19) (by kernel_rfl) rfl (fun K hK => ?_)
   go_simp
   refine hK.out _ _ (fun _ => TS) ?_
   clear hK K
   try simp only [Act.put, sa1, sa2, sa3]
   refine wpAnyN_at (i := 20) (v := .slice a3 b3.length c3) (some 136) rfl rfl (by kernel_rfl) (by kernel_rfl) (by kernel_rfl) (by kernel_rfl) (fun _ _ _ h => h) (Or.inl ⟨by rfl, ?_⟩) TS ?_
   · intro w hSw
     go_simp
   try simp only [Act.put, sa1, sa2, sa3]
   refine wpAnyN_at (i := 21) (v := .bool ok3) (some 137) rfl rfl (by kernel_rfl) (by kernel_rfl) (by kernel_rfl) (by kernel_rfl) (fun _ _ _ h => h) (Or.inl ⟨by rfl, ?_⟩) TS ?_
   · intro w hSw
     go_simp
   try simp only [Act.put, sa1, sa2, sa3]
   refine wpAnyN_at (i := 22) (v := .slice a3 b3.length c3) (some 14) rfl rfl (by kernel_rfl) (by kernel_rfl) (by kernel_rfl) (by kernel_rfl) (fun _ _ _ h => h) (Or.inl ⟨by rfl, ?_⟩) TS ?_
   · intro w hSw
     go_simp
   try simp only [Act.put, sa1, sa2, sa3]
   refine wpAnyN_at (i := 23) (v := .bool ok3) (some 15) rfl rfl (by kernel_rfl) (by kernel_rfl) (by kernel_rfl) (by kernel_rfl) (fun _ _ _ h => h) (Or.inl ⟨by rfl, ?_⟩) TS ?_
   · intro w hSw
     go_simp
   try simp only [Act.put, sa1, sa2, sa3]
   refine wpAnyL_done (by kernel_rfl) ?_ _
   refine NoPanic.normal ?_
   clear TS kX0 kX1 kX2 kX3 kX4 kP0 kP1 kP2 kP3 kP4 yd4 zd4 hN3 g3 G2 hN2 g2
   have hlt' := hlt.out
   have hb0' := hb0.out
   clear hcx2 hcx hcv
   cases okI
   all_goals
    go_wp2_with fail
    exact ⟨⟨i + 1, _, by omega, by omega, by go_num, rfl, by first | exact h7 | simpa using h7, hG.trans G3⟩, by simp [intOf]; omega⟩
  ·
   have hd : decide ((i : Int) < (l.length : Int)) = false := by simp; omega
   have hie : i = l.length := by omega
   have hfin : Hid (∀ f L, (preL [Tr.mk 13 s n b l]).length ≤ f → Rl L bs → okI = !(lk f L (.mk 13 s n b l)).1 ∧ (okI = true → Rl (lk f L (.mk 13 s n b l)).2 bs)) := by
    have h1 := hSI.out
    rw [hie, List.take_length] at h1
    intro f L hf hL
    rw [pre_mk] at hf
    cases f with
    | zero => omega
    | succ f => rw [hlk.out]; exact h1 f L (by omega) hL
   have hb1r := (hN1.out.g0 hG).up hG.size
   have hlb : Hid (bs.length ≤ bs.length + (preL [Tr.mk 13 s n b l]).length) := by
    have := hlb1.out
    show _ ≤ _
    rw [pre_mk]; omega
   clear hie hSI
   go_wp2_with fail
   go_ret2
   exact EdB.mk _ bs okI rfl hb1r hlb.out hfin.out ((hgA.out.trans hG1.out).trans hG)
set_option maxRecDepth 100000 in
set_option maxHeartbeats 3200000 in
theorem bd13b (s : ByteArray) (n : Int) (b : List Int) (l : List Tr) (haf : aftV l = true) (ka : Int) (sa : ByteArray) (na : Int) (bb : List Int) (X Y : Tr) (hk14 : ka = 14) (hA : l[l.length - 1]? = some (.mk ka sa na bb [X, Y])) (hX : BdR X) (hY : BdR Y) (hcs : ∀ (i : Nat) (C : Tr), i + 1 < l.length → l[i]? = some C → ClR C) : BdR (.mk 13 s n b l) := by
 intro N W vb v bs hb hN hR hlen h4k
 rw [pre_mk] at hlen h4k
 obtain ⟨ba, bc, la, lc, rfl, hrow⟩ := rep_row hR
 have hNr := hb.up hN
 obtain ⟨ab, cb, rfl⟩ := hb.sv
 have hll := preL_len l
 have hlI : (l.length : Int) ≤ 30000 := by omega
 have gA := Gr.alloc W (.cells #[.int .i64 13, .string s, .int .i64 n, .slice ba b.length bc, .slice la l.length lc] 25) (fun _ => False)
 obtain ⟨⟨m0, m1, m2, m3, m4⟩, _⟩ := five_cells (heap_alloc_new W (.cells #[.int .i64 13, .string s, .int .i64 n, .slice ba b.length bc, .slice la l.length lc] 25))
 have hsz1 : (W.alloc (.cells #[.int .i64 13, .string s, .int .i64 n, .slice ba b.length bc, .slice la l.length lc] 25)).heap.size = W.heap.size + 1 := by simp
 have hst0 := Lib.hid ((hNr.g0 gA).up gA.size)
 obtain ⟨tb, htb⟩ : ∃ tb, W.heap.size = tb := ⟨_, rfl⟩
 rw [htb] at m0 m1 m2 m3 m4 hsz1 hN
 subst hk14
 obtain ⟨m, hm⟩ : ∃ m, l.length - 1 = m := ⟨_, rfl⟩
 have hml : m < l.length := by have := (List.getElem?_eq_some_iff.1 hA).1; omega
 have hmI : (l.length : Int) - 1 = (m : Int) := by omega
 have hmlI : (m : Int) < (l.length : Int) := by omega
 have hlpI : (1 : Int) ≤ (l.length : Int) := by omega
 have hmI2 : (m : Int) ≤ 30000 := by omega
 have hlk : Hid (∀ f L, lk (f + 1) L (.mk 13 s n b l) = (if (lk f L X).1 = true then (true, (lk f L X).2) else if (goA (lk f) (lk f L X).2 (l.take m)).1 = true then (true, (goA (lk f) (lk f L X).2 (l.take m)).2) else ((lk f (goA (lk f) (lk f L X).2 (l.take m)).2 Y).1, (goA (lk f) (lk f L X).2 (l.take m)).2))) := fun f L => by
  conv => lhs; unfold lk
  rw [if_neg (by decide), if_neg (by decide), if_neg (by decide), if_pos ⟨rfl, haf⟩, hA]
  have : clsV l = l.take m := by unfold clsV; rw [if_pos haf, List.dropLast_eq_take, hm]
  rw [this]
 have hszA : (preL l).length = (preL (l.take m)).length + ((preL [X]).length + (preL [Y]).length + 1) := by
  have h1 := pre_take hA
  rw [hm, pre_mk, pre_cons2, preL_nil] at h1
  rw [show m + 1 = l.length by omega, List.take_length] at h1
  simp at h1
  omega
 rw [hm] at hA
 obtain ⟨g0, o0, rfl, hg0, hEA⟩ := hrow m _ hA
 obtain ⟨ba2, bc2, la2, lc2, ⟨r0, r1, r2, r3, r4⟩, hrow2, hgl2⟩ := (hEA.g0 gA hg0).parts
 obtain ⟨ga, oa, rfl, hga, hXA⟩ := hrow2 0 X rfl
 obtain ⟨g2', o2', e2, _, hYA⟩ := hrow2 1 Y rfl
 cases e2
 rw [Nat.zero_mul, Nat.add_zero] at hXA
 rw [Nat.one_mul] at hYA
 rw [show [X, Y].length = 2 from rfl] at r4
 obtain ⟨vX, hRX0, ⟨xk, xs, xn, xa1, xn1, xc1, xa2, xn2, xc2, rfl⟩, hcX⟩ := hXA.val
 obtain ⟨vY, hRY0, ⟨yk, ys, yn, ya1, yn1, yc1, ya2, yn2, yc2, rfl⟩, hcY⟩ := hYA.val
 have hcallX := Lib.hid (hX (W.alloc (.cells #[.int .i64 13, .string s, .int .i64 n, .slice ba b.length bc, .slice (some ⟨g0, o0, none⟩) l.length lc] 25)).heap.size _ _ _ bs hst0.out (Nat.le_refl _) (hRX0.turn (fun z hz hl => ⟨hl, rfl⟩)) (by omega) (by omega))
 have hcallY := Lib.hid (fun w (gw : Gr (fun _ => False) (W.alloc (.cells #[.int .i64 13, .string s, .int .i64 n, .slice ba b.length bc, .slice (some ⟨g0, o0, none⟩) l.length lc] 25)) w) vb' b' (hb' : Nr w.heap.size w vb' b') (hl' : b'.length ≤ bs.length + (preL [X]).length) => hY w.heap.size w vb' _ b' hb' (Nat.le_refl _) (hRY0.turn (A' := fun z => z < w.heap.size) (fun z hz hl => ⟨Nat.lt_of_lt_of_le hl gw.size, gw.block z hl (fun e => e)⟩)) (by omega) (by omega))
 have kX0 : (W.alloc (.cells #[.int .i64 13, .string s, .int .i64 n, .slice ba b.length bc, .slice (some ⟨g0, o0, none⟩) l.length lc] 25)).cell? ⟨ga, oa, none⟩ = some (.int .i64 xk) := hcX 0 _ rfl
 have kX1 := hcX 1 _ rfl
 have kX2 := hcX 2 _ rfl
 have kX3 := hcX 3 _ rfl
 have kX4 := hcX 4 _ rfl
 have kY0 : (W.alloc (.cells #[.int .i64 13, .string s, .int .i64 n, .slice ba b.length bc, .slice (some ⟨g0, o0, none⟩) l.length lc] 25)).cell? ⟨ga, oa + 5, none⟩ = some (.int .i64 yk) := hcY 0 _ rfl
 have kY1 := hcY 1 _ rfl
 have kY2 := hcY 2 _ rfl
 have kY3 := hcY 3 _ rfl
 have kY4 := hcY 4 _ rfl
 have hgl3 := World.block_lt_of_cell? _ _ kX0
 have yy := Lib.hid (And.intro kY0 (And.intro kY1 (And.intro kY2 (And.intro kY3 (And.intro kY4 r4)))))
 have hsame : Hid (∀ (f i : Nat), i ≤ m → ∀ L, (goA (lk f) L (l.take i)).2 = L) := fun f i hi => goA_same (fun C hC L => by
  obtain ⟨j, hj, e⟩ := List.getElem_of_mem hC
  rw [List.length_take] at hj
  have hj2 : l[j]? = some C := by rw [← e, List.getElem_take]; exact List.getElem?_eq_getElem (by omega)
  obtain ⟨_, _, _, _, _, rfl, _⟩ := hcs j C (by omega) hj2
  cases f with
  | zero => rfl
  | succ f => rw [lk_cl])
 have hcs' : ∀ (i : Nat) (C : Tr), i < m → l[i]? = some C → ClR C := fun i C hi h => hcs i C (by omega) h
 replace hszA := Lib.hid hszA
 replace hrow := Lib.hid hrow
 replace hcs := Lib.hid hcs'
 replace hlen := Lib.hid hlen
 replace h4k := Lib.hid h4k
 replace hm := Lib.hid hm
 have hgA := Lib.hid gA
 clear hR hb hll hEA hRX0 hRY0 hcX hcY hXA hYA hrow2 gA m1 m2 m3 haf hA hX hY r1 r2 r3 kY0 kY1 kY2 kY3 kY4 hcs'
 go_enter Tryz.func32, Tryz.ntmps32
 go_wp2_with fail
 replace htb := Lib.hid htb
 generalize W.alloc (.cells #[.int .i64 13, .string s, .int .i64 n, .slice ba b.length bc, .slice (some ⟨g0, o0, none⟩) l.length lc] 25) = W1 at hgA m4 m0 hst0 hsz1 hcallX hcallY kX0 kX1 kX2 kX3 kX4 yy r0 r4 hgl2 hgl3 ⊢
 refine hcallX.out.mono ?_
 rintro e w2 ⟨v1, b1, ok1, rfl, hN2, hlx, hs1, g1⟩
 have hcy := Lib.hid (hcallY.out w2 g1 v1 b1 hN2 hlx)
 have y4 := cell_gr m4 g1 (fun e => e)
 obtain ⟨j0, j1, j2, j3, j4, j5⟩ := yy.out
 have j0 := cell_gr j0 g1 (fun e => e)
 have j1 := cell_gr j1 g1 (fun e => e)
 have j2 := cell_gr j2 g1 (fun e => e)
 have j3 := cell_gr j3 g1 (fun e => e)
 have j4 := cell_gr j4 g1 (fun e => e)
 have j5 := cell_gr j5 g1 (fun e => e)
 have b1' := World.block_lt_of_cell? _ _ j0
 have b2' := World.block_lt_of_cell? _ _ j5
 have b3' := World.block_lt_of_cell? _ _ y4
 have hm4' := Lib.hid y4
 replace hgA := Lib.hid (hgA.out.trans g1)
 obtain ⟨a1, c1, rfl⟩ := hN2.sv
 replace hN2 := Lib.hid hN2
 replace hs1 := Lib.hid hs1
 replace hlx := Lib.hid hlx
 clear kX0 kX1 kX2 kX3 kX4 r0 r4 m4 m0 hsz1 hst0 hcallX hcallY g1 hgl2 hgl3
 go_wp2_with fail
 refine hcy.out.mono ?_
 rintro e w1 ⟨v3, b3, okY, rfl, hN3, hl3, hs3, g3⟩
 obtain ⟨a3', c3', rfl⟩ := hN3.sv
 have hm4 := Lib.hid (cell_gr hm4'.out g3 (fun e => e))
 replace hgA := Lib.hid (hgA.out.trans g3)
 have hN1 : Hid (Nr w1.heap.size w1 (.slice a1 b1.length c1) b1) := (hN2.out.g0 g3).up g3.size
 have hlb1 : Hid (b1.length ≤ bs.length + (preL l).length) := by have := hlx.out; have := hszA.out; show _ ≤ _; omega
 have hlbC : Hid (∀ (i : Nat) (C : Tr), 0 ≤ i → i < m → l[i]? = some C → b1.length + (preL [C]).length ≤ bs.length + (preL l).length) := fun i C _ him hC => by
  have h2 := pre_take hC
  have h3 := pre_take_le (l.take m) (i + 1)
  rw [List.take_take, Nat.min_eq_left (show i + 1 ≤ m by omega)] at h3
  have := hlx.out
  have := hszA.out
  omega
 have hstart : Hid (∀ f L, (preL l).length ≤ f → Rl L bs → (ok1 && okY) = !((lk f L X).1 || (lk f (lk f L X).2 Y).1 || (goA (lk f) (lk f L X).2 (l.take 0)).1) ∧ ((ok1 && okY) = true → Rl (lk f L X).2 b1)) := fun f L hf hL => by
  have hsz := hszA.out
  obtain ⟨h1, h2⟩ := hs1.out f L (by omega) hL
  rw [List.take_zero]
  cases hx : (lk f L X).1 with
  | true =>
   rw [hx] at h1
   have h1' : ok1 = false := h1
   rw [h1']; exact ⟨by simp, fun e => by simp at e⟩
  | false =>
   rw [hx] at h1
   have h1' : ok1 = true := h1
   obtain ⟨h5, _⟩ := hs3 f _ (by omega) (h2 h1')
   rw [h1', h5]
   refine ⟨?_, fun _ => h2 h1'⟩
   show _ = !(false || _ || false)
   simp
 have y4 := hm4.out
 have htw := World.block_lt_of_cell? _ _ y4
 clear hs3 hl3 hN3 g3 j0 j1 j2 j3 j4 j5 b1' b2' b3' hm4' hs1
 have hG1 : Hid (Gr (fun _ => False) w1 w1) := Gr.refl _ _
 cases ok1
 all_goals
  go_wp2_with fail
  clear y4 htw
  go_loopw [10, 13, 14, 15] (fun u10 u13 u14 u15 wr => ∃ (i : Nat) (okI : Bool), 0 ≤ i ∧ i ≤ m ∧ u13 = .int .i64 (i : Int) ∧ u10 = .bool okI ∧ Hid (∀ f L, (preL l).length ≤ f → Rl L bs → okI = !((lk f L X).1 || (lk f (lk f L X).2 Y).1 || (goA (lk f) (lk f L X).2 (l.take i)).1) ∧ (okI = true → Rl (lk f L X).2 b1)) ∧ Gr (fun _ => False) w1 wr) (fun _ u13 _ _ _ => m - (intOf u13).toNat)
  case atStart => exact ⟨0, _, Nat.le_refl _, Nat.zero_le _, rfl, rfl, by first | exact hstart.out | simpa using hstart.out, Gr.refl _ _⟩
  case round =>
   obtain ⟨i, okI, hi0, hi, rfl, rfl, hSI, hG⟩ := hrel
   have hGW := hG1.out.trans hG
   have y4 := cell_gr hm4.out hGW (fun e => e)
   have htl : tb < wr.heap.size := World.block_lt_of_cell? _ _ y4
   by_cases hlt : i < m
   ·
    have hd : decide ((i : Int) < (m : Int)) = true := by simp; omega
    have hil : i < l.length := by omega
    have hiI : (i : Int) < (l.length : Int) := by omega
    have hTi : l[i]? = some l[i] := List.getElem?_eq_getElem hil
    obtain ⟨g', o', e', hg', hTA⟩ := hrow.out i _ hTi
    cases e'
    have hcl := hcs.out i _ hlt hTi
    have hgt := fun f L => goA_take (step := lk f) (L := L) hTi
    have htk := pre_take hTi
    have htl2 := pre_take_le l (i + 1)
    have hlC := hlbC.out i _ hi0 hlt hTi
    generalize l[i] = C at hcl hTA hgt htk hTi hlC
    obtain ⟨cs, cn, cb', P, X', rfl, hX⟩ := hcl
    rw [cl_size] at htk hlC
    obtain ⟨ba', bc', la', lc', ⟨z0, z1, z2, z3, z4⟩, hrow', hgl'⟩ := (hTA.g0 (hgA.out.trans hGW) hg').parts
    obtain ⟨gc, oc, rfl, hgc, hP⟩ := hrow' 0 P rfl
    obtain ⟨g2', o2', e2, _, hX2⟩ := hrow' 1 X' rfl
    cases e2
    rw [Nat.zero_mul, Nat.add_zero] at hP
    rw [Nat.one_mul] at hX2
    rw [show [P, X'].length = 2 from rfl] at z4
    obtain ⟨vP, hRP, ⟨pk, ps, pn, pa1, pn1, pc1, pa2, pn2, pc2, rfl⟩, hcP⟩ := hP.val
    obtain ⟨vX, hRX, ⟨xk, xs, xn, xa1, xn1, xc1, xa2, xn2, xc2, rfl⟩, hcX⟩ := hX2.val
    have gd := Gr.drew wr (fun _ => False)
    have kX0 : wr.drew.cell? ⟨gc, oc + 5, none⟩ = some (.int .i64 xk) := cell_gr (hcX 0 _ rfl) gd (fun e => e)
    have kX1 := cell_gr (hcX 1 _ rfl) gd (fun e => e)
    have kX2 := cell_gr (hcX 2 _ rfl) gd (fun e => e)
    have kX3 := cell_gr (hcX 3 _ rfl) gd (fun e => e)
    have kX4 := cell_gr (hcX 4 _ rfl) gd (fun e => e)
    have kP0 : wr.drew.cell? ⟨gc, oc, none⟩ = some (.int .i64 pk) := cell_gr (hcP 0 _ rfl) gd (fun e => e)
    have kP1 := cell_gr (hcP 1 _ rfl) gd (fun e => e)
    have kP2 := cell_gr (hcP 2 _ rfl) gd (fun e => e)
    have kP3 := cell_gr (hcP 3 _ rfl) gd (fun e => e)
    have kP4 := cell_gr (hcP 4 _ rfl) gd (fun e => e)
    have yd4 := cell_gr y4 gd (fun e => e)
    have zd4 := cell_gr z4 gd (fun e => e)
    have hb1r : Nr wr.heap.size wr (.slice a1 b1.length c1) b1 := (hN1.out.g0 hG).up hG.size
    have hcv := Lib.hid (fun w (gw : Gr (fun _ => False) wr w) => rvars_c w.heap.size w _ b1 _ P ((hb1r.g0 gw).up gw.size) (Nat.le_refl _) (hRP.turn (A' := fun z => z < w.heap.size) (fun z hz hl => ⟨Nat.lt_of_lt_of_le hl gw.size, gw.block z hl (fun e => e)⟩)) (by have := h4k.out; omega) (by have := hlen.out; omega))
    have hvl := vrL_len (preL [P]) b1
    have hcx := Lib.hid (fun w (gw : Gr (fun _ => False) wr w) vb' (hb' : Nr w.heap.size w vb' (vrL b1 (preL [P]))) => hX w.heap.size w vb' _ _ hb' (Nat.le_refl _) (hRX.turn (A' := fun z => z < w.heap.size) (fun z hz hl => ⟨Nat.lt_of_lt_of_le hl gw.size, gw.block z hl (fun e => e)⟩)) (by have := hlen.out; omega) (by have := h4k.out; omega))
    have hstep := (fun (ok : Bool) b' (h : ∀ f L, (preL [X']).length ≤ f → Rl L (vrL b1 (preL [P])) → ok = !(lk f L X').1 ∧ (ok = true → Rl (lk f L X').2 b')) => show ∀ f L, (preL l).length ≤ f → Rl L bs → (okI && ok) = !((lk f L X).1 || (lk f (lk f L X).2 Y).1 || (goA (lk f) (lk f L X).2 (l.take (i + 1))).1) ∧ ((okI && ok) = true → Rl (lk f L X).2 b1) from fun f L hf hL => by
     obtain ⟨h1, h2⟩ := hSI.out f L hf hL
     have hG2 : (goA (lk f) (lk f L X).2 (l.take i)).2 = (lk f L X).2 := hsame.out f i (by omega) _
     rw [hgt f (lk f L X).2, hG2]
     generalize (lk f L X).1 = A at h1 ⊢
     generalize (lk f (lk f L X).2 Y).1 = B at h1 ⊢
     generalize (goA (lk f) (lk f L X).2 (l.take i)).1 = G at h1 ⊢
     cases okI with
     | false =>
      refine ⟨?_, fun e => by cases e⟩
      cases A <;> cases B <;> cases G <;> simp at h1 ⊢
     | true =>
      have h3 := h2 rfl
      cases A <;> cases B <;> cases G <;> simp at h1
      rw [if_neg (by decide)]
      cases f with
      | zero => omega
      | succ f =>
       rw [lk_cl]
       obtain ⟨h5, _⟩ := h f _ (by omega) (Rl.fp (preL [P]) h3)
       have h5' : ok = !(lk f (putT _ P) X').1 := h5
       exact ⟨by simpa using h5', fun _ => h3⟩)
    replace hstep := Lib.hid hstep
    have hb := Lib.hid hi
    have hb0 := Lib.hid hi0
    replace hlt := Lib.hid hlt
    clear hTA hTi hrow' hP hX2 hRP hRX hcP hcX hgt htk htl2 hSI hb1r hvl z0 z1 z2 z3 z4 hX
    go_wp2_with fail
    have TS : Gr (fun _ => False) wr.drew wr.drew := Gr.refl _ _
    refine wp_region_L (L := 100) (T := fun w => Gr (fun _ => False) wr.drew w) (by kernel_rfl) ?_
    refine wpAnyN_at (i := 0) (v := .slice a1 b1.length c1) (some 117) rfl rfl (by kernel_rfl) (by kernel_rfl) (by kernel_rfl) (by kernel_rfl) (fun _ _ _ h => h) (Or.inl ⟨by rfl, ?_⟩) TS ?_
    · intro w hSw
      go_simp
    try simp only [Act.put, sa1, sa2, sa3]
    refine wpAnyN_at (i := 1) (v := ptr tb 4) (some 118) rfl rfl (by kernel_rfl) (by kernel_rfl) (by kernel_rfl) (by kernel_rfl) (fun _ _ _ h => h) (Or.inl ⟨by rfl, ?_⟩) TS ?_
    · intro w hSw
      go_simp
    try simp only [Act.put, sa1, sa2, sa3]
    refine wpAnyN_at (i := 2) (v := .slice (some ⟨g0, o0, none⟩) l.length lc) (some 119) rfl rfl (by kernel_rfl) (by kernel_rfl) (by kernel_rfl) (by kernel_rfl) (fun _ _ _ h => h) (Or.inl ⟨by rfl, ?_⟩) TS ?_
    · intro w hSw
      have q0 := cell_gr yd4 hSw (fun e => e)
      have qz := World.block_lt_of_cell? _ _ q0
      go_simp
    try simp only [Act.put, sa1, sa2, sa3]
    refine wpAnyN_at (i := 3) (v := .int .i64 (i : Int)) (some 120) rfl rfl (by kernel_rfl) (by kernel_rfl) (by kernel_rfl) (by kernel_rfl) (fun _ _ _ h => h) (Or.inl ⟨by rfl, ?_⟩) TS ?_
    · intro w hSw
      go_simp
    try simp only [Act.put, sa1, sa2, sa3]
    refine wpAnyN_at (i := 4) (v := ptr g0 (o0 + i * 5)) (some 121) rfl rfl (by kernel_rfl) (by kernel_rfl) (by kernel_rfl) (by kernel_rfl) (fun _ _ _ h => h) (Or.inl ⟨by rfl, ?_⟩) TS ?_
    · intro w hSw
      go_simp
    try simp only [Act.put, sa1, sa2, sa3]
    refine wpAnyN_at (i := 5) (v := ptr g0 (o0 + i * 5 + 4)) (some 122) rfl rfl (by kernel_rfl) (by kernel_rfl) (by kernel_rfl) (by kernel_rfl) (fun _ _ _ h => h) (Or.inl ⟨by rfl, ?_⟩) TS ?_
    · intro w hSw
      have q0 := cell_gr zd4 hSw (fun e => e)
      have qz := World.block_lt_of_cell? _ _ q0
      go_simp
    try simp only [Act.put, sa1, sa2, sa3]
    refine wpAnyN_at (i := 6) (v := .slice (some ⟨gc, oc, none⟩) 2 lc') (some 123) rfl rfl (by kernel_rfl) (by kernel_rfl) (by kernel_rfl) (by kernel_rfl) (fun _ _ _ h => h) (Or.inl ⟨by rfl, ?_⟩) TS ?_
    · intro w hSw
      have q0 := cell_gr zd4 hSw (fun e => e)
      have qz := World.block_lt_of_cell? _ _ q0
      go_simp
    try simp only [Act.put, sa1, sa2, sa3]
    refine wpAnyN_at (i := 7) (v := ptr gc oc) (some 124) rfl rfl (by kernel_rfl) (by kernel_rfl) (by kernel_rfl) (by kernel_rfl) (fun _ _ _ h => h) (Or.inl ⟨by rfl, ?_⟩) TS ?_
    · intro w hSw
      go_simp
    try simp only [Act.put, sa1, sa2, sa3]
    refine wpAnyN_at (i := 8) (v := trv pk ps pn (.slice pa1 pn1 pc1) (.slice pa2 pn2 pc2)) (some 125) rfl rfl (by kernel_rfl) (by kernel_rfl) (by kernel_rfl) (by kernel_rfl) (fun _ _ _ h => h) (Or.inl ⟨by rfl, ?_⟩) TS ?_
    · intro w hSw
      have q0 := cell_gr kP0 hSw (fun e => e)
      have q1 := cell_gr kP1 hSw (fun e => e)
      have q2 := cell_gr kP2 hSw (fun e => e)
      have q3 := cell_gr kP3 hSw (fun e => e)
      have q4 := cell_gr kP4 hSw (fun e => e)
      have qz := World.block_lt_of_cell? _ _ q0
      go_simp
    try simp only [Act.put, sa1, sa2, sa3]
    refine wpAnyN_at (i := 10) (v := ptr tb 4) (some 127) rfl rfl (by kernel_rfl) (by kernel_rfl) (by kernel_rfl) (by kernel_rfl) (fun _ _ _ h => h) (Or.inl ⟨by rfl, ?_⟩) TS ?_
    · intro w hSw
      go_simp
    try simp only [Act.put, sa1, sa2, sa3]
    refine wpAnyN_at (i := 11) (v := .slice (some ⟨g0, o0, none⟩) l.length lc) (some 128) rfl rfl (by kernel_rfl) (by kernel_rfl) (by kernel_rfl) (by kernel_rfl) (fun _ _ _ h => h) (Or.inl ⟨by rfl, ?_⟩) TS ?_
    · intro w hSw
      have q0 := cell_gr yd4 hSw (fun e => e)
      have qz := World.block_lt_of_cell? _ _ q0
      go_simp
    try simp only [Act.put, sa1, sa2, sa3]
    refine wpAnyN_at (i := 12) (v := .int .i64 (i : Int)) (some 129) rfl rfl (by kernel_rfl) (by kernel_rfl) (by kernel_rfl) (by kernel_rfl) (fun _ _ _ h => h) (Or.inl ⟨by rfl, ?_⟩) TS ?_
    · intro w hSw
      go_simp
    try simp only [Act.put, sa1, sa2, sa3]
    refine wpAnyN_at (i := 13) (v := ptr g0 (o0 + i * 5)) (some 130) rfl rfl (by kernel_rfl) (by kernel_rfl) (by kernel_rfl) (by kernel_rfl) (fun _ _ _ h => h) (Or.inl ⟨by rfl, ?_⟩) TS ?_
    · intro w hSw
      go_simp
    try simp only [Act.put, sa1, sa2, sa3]
    refine wpAnyN_at (i := 14) (v := ptr g0 (o0 + i * 5 + 4)) (some 131) rfl rfl (by kernel_rfl) (by kernel_rfl) (by kernel_rfl) (by kernel_rfl) (fun _ _ _ h => h) (Or.inl ⟨by rfl, ?_⟩) TS ?_
    · intro w hSw
      have q0 := cell_gr zd4 hSw (fun e => e)
      have qz := World.block_lt_of_cell? _ _ q0
      go_simp
    try simp only [Act.put, sa1, sa2, sa3]
    refine wpAnyN_at (i := 15) (v := .slice (some ⟨gc, oc, none⟩) 2 lc') (some 132) rfl rfl (by kernel_rfl) (by kernel_rfl) (by kernel_rfl) (by kernel_rfl) (fun _ _ _ h => h) (Or.inl ⟨by rfl, ?_⟩) TS ?_
    · intro w hSw
      have q0 := cell_gr zd4 hSw (fun e => e)
      have qz := World.block_lt_of_cell? _ _ q0
      go_simp
    try simp only [Act.put, sa1, sa2, sa3]
    refine wpAnyN_at (i := 16) (v := ptr gc (oc + 5)) (some 133) rfl rfl (by kernel_rfl) (by kernel_rfl) (by kernel_rfl) (by kernel_rfl) (fun _ _ _ h => h) (Or.inl ⟨by rfl, ?_⟩) TS ?_
    · intro w hSw
      go_simp
    try simp only [Act.put, sa1, sa2, sa3]
    refine wpAnyN_at (i := 17) (v := trv xk xs xn (.slice xa1 xn1 xc1) (.slice xa2 xn2 xc2)) (some 134) rfl rfl (by kernel_rfl) (by kernel_rfl) (by kernel_rfl) (by kernel_rfl) (fun _ _ _ h => h) (Or.inl ⟨by rfl, ?_⟩) TS ?_
    · intro w hSw
      have q0 := cell_gr kX0 hSw (fun e => e)
      have q1 := cell_gr kX1 hSw (fun e => e)
      have q2 := cell_gr kX2 hSw (fun e => e)
      have q3 := cell_gr kX3 hSw (fun e => e)
      have q4 := cell_gr kX4 hSw (fun e => e)
      have qz := World.block_lt_of_cell? _ _ q0
      go_simp
    try simp only [Act.put, sa1, sa2, sa3]
    refine wpAnyL_one (i := 9) (by kernel_rfl) rfl (fun K hK => ?_)
    go_simp
    refine (hcv.out _ gd).mono ?_
    rintro e w2 ⟨v2, rfl, hN2, g2⟩
    have TS : Gr (fun _ => False) wr.drew w2 := g2
    have G2 := gd.trans g2
    have hcx2 := Lib.hid (hcx.out w2 G2 v2 hN2)
    refine hK.out _ _ (fun _ => TS) ?_
    clear hK K
    try simp only [Act.put, sa1, sa2, sa3]
    refine wpAnyL_one (i := 18) (by kernel_rfl) rfl (fun K hK => ?_)
    go_simp
    refine hcx2.out.mono ?_
    rintro e w3 ⟨v3, b3, ok3, rfl, hN3, hl3, hs3, g3⟩
    have TS : Gr (fun _ => False) wr.drew w3 := TS.trans g3
    have G3 := G2.trans g3
    have h7 := Lib.hid (hstep.out ok3 b3 hs3)
    obtain ⟨a3, c3, rfl⟩ := hN3.sv
    refine hK.out _ _ (fun _ => TS) ?_
    clear hK K hs3
    try simp only [Act.put, sa1, sa2, sa3]
    refine wpAnyL_one (i := 19) (by kernel_rfl) rfl (fun K hK => ?_)
    go_simp
    refine hK.out _ _ (fun _ => TS) ?_
    clear hK K
    try simp only [Act.put, sa1, sa2, sa3]
    refine wpAnyN_at (i := 20) (v := .slice a3 b3.length c3) (some 136) rfl rfl (by kernel_rfl) (by kernel_rfl) (by kernel_rfl) (by kernel_rfl) (fun _ _ _ h => h) (Or.inl ⟨by rfl, ?_⟩) TS ?_
    · intro w hSw
      go_simp
    try simp only [Act.put, sa1, sa2, sa3]
    refine wpAnyN_at (i := 21) (v := .bool ok3) (some 137) rfl rfl (by kernel_rfl) (by kernel_rfl) (by kernel_rfl) (by kernel_rfl) (fun _ _ _ h => h) (Or.inl ⟨by rfl, ?_⟩) TS ?_
    · intro w hSw
      go_simp
    try simp only [Act.put, sa1, sa2, sa3]
    refine wpAnyN_at (i := 22) (v := .slice a3 b3.length c3) (some 14) rfl rfl (by kernel_rfl) (by kernel_rfl) (by kernel_rfl) (by kernel_rfl) (fun _ _ _ h => h) (Or.inl ⟨by rfl, ?_⟩) TS ?_
    · intro w hSw
      go_simp
    try simp only [Act.put, sa1, sa2, sa3]
    refine wpAnyN_at (i := 23) (v := .bool ok3) (some 15) rfl rfl (by kernel_rfl) (by kernel_rfl) (by kernel_rfl) (by kernel_rfl) (fun _ _ _ h => h) (Or.inl ⟨by rfl, ?_⟩) TS ?_
    · intro w hSw
      go_simp
    try simp only [Act.put, sa1, sa2, sa3]
    refine wpAnyL_done (by kernel_rfl) ?_ _
    refine NoPanic.normal ?_
    clear TS kX0 kX1 kX2 kX3 kX4 kP0 kP1 kP2 kP3 kP4 yd4 zd4 hN3 g3 G2 hN2 g2
    have hlt' := hlt.out
    have hb0' := hb0.out
    clear hcx2 hcx hcv
    cases okI
    all_goals
     go_wp2_with fail
     exact ⟨⟨i + 1, _, by omega, by omega, by go_num, rfl, by first | exact h7 | simpa using h7, hG.trans G3⟩, by simp [intOf]; omega⟩
   ·
    have hd : decide ((i : Int) < (m : Int)) = false := by simp; omega
    have hie : i = m := by omega
    have hfin : Hid (∀ f L, (preL [Tr.mk 13 s n b l]).length ≤ f → Rl L bs → okI = !(lk f L (.mk 13 s n b l)).1 ∧ (okI = true → Rl (lk f L (.mk 13 s n b l)).2 b1)) := by
     have h1 := hSI.out
     rw [hie] at h1
     intro f L hf hL
     rw [pre_mk] at hf
     cases f with
     | zero => omega
     | succ f =>
      obtain ⟨h2, h3⟩ := h1 f L (by omega) hL
      rw [hlk.out]
      have hG2 : (goA (lk f) (lk f L X).2 (l.take m)).2 = (lk f L X).2 := hsame.out f m (Nat.le_refl _) _
      rw [hG2]
      generalize (lk f (lk f L X).2 Y).1 = B at h2 ⊢
      generalize (goA (lk f) (lk f L X).2 (l.take m)).1 = G at h2 ⊢
      cases hA1 : (lk f L X).1 with
      | true => rw [hA1] at h2; rw [if_pos rfl]; exact ⟨h2, fun e => by rw [h2] at e; cases e⟩
      | false =>
       rw [hA1] at h2
       rw [if_neg (by decide)]
       cases G with
       | true => rw [if_pos rfl]; refine ⟨by simpa using h2, fun e => ?_⟩; rw [h2] at e; simp at e
       | false => rw [if_neg (by decide)]; exact ⟨by simpa using h2, h3⟩
    have hb1r := (hN1.out.g0 hG).up hG.size
    have hlb : Hid (b1.length ≤ bs.length + (preL [Tr.mk 13 s n b l]).length) := by
     have := hlb1.out
     show _ ≤ _
     rw [pre_mk]; omega
    clear hie hSI
    go_wp2_with fail
    go_ret2
    exact EdB.mk _ b1 okI rfl hb1r hlb.out hfin.out ((hgA.out.trans hG1.out).trans hG)
end Go.Proofs.YtjedbfbolifjjaaGreatDoor

namespace Go.Proofs.YtjedbfbolifjjaaGreatDoor
open Go.RowKit Go.Maps
variable {W W' : World}
theorem pair_form {k : Int} {s : ByteArray} {n : Int} {b : List Int} {l : List Tr} (hk : k = 14 ∨ k = 15) (h : misV (.mk k s n b l) = false) : ∃ P X, l = [P, X] ∧ exV P = true ∧ isK 16 X = true := by
 obtain ⟨_, hp⟩ := mis_parts h
 have h2 : l.length = 2 ∧ ((l[0]?.map exV).getD false = true ∧ (l[1]?.map (isK 16)).getD false = true) := by
  rcases hk with rfl | rfl <;> (simp [partsV] at hp; exact ⟨by omega, by simpa using hp.2.1, by simpa using hp.2.2⟩)
 obtain ⟨h3, h4, h5⟩ := h2
 match l, h3 with
 | [P, X], _ => exact ⟨P, X, rfl, by simpa using h4, by simpa using h5⟩
theorem bd_c : ∀ (m : Nat) (T : Tr), (preL [T]).length ≤ m → (∀ U ∈ preL [T], misV U = false) → (exV T = true ∨ kdT T = 16) → BdR T
 | 0, T, hm, _, _ => by obtain ⟨k, s, n, b, l⟩ := T; rw [pre_mk] at hm; omega
 | m + 1, .mk k s n b l, hm, h, hk => by
  have h0 := h _ (self_pre _)
  obtain ⟨hb, hp⟩ := mis_parts h0
  rw [pre_mk] at hm
  have hsub : ∀ U ∈ l, ∀ V ∈ preL [U], misV V = false := fun U hU V hV => h V (by
   rw [preL_cons, preL_nil, List.append_nil]
   exact List.mem_cons_of_mem _ (mem_pre hU V hV))
  have hlen : ∀ U ∈ l, (preL [U]).length ≤ m := fun U hU => by have := pre_mem hU; omega
  have ih : ∀ U ∈ l, exV U = true → BdR U := fun U hU he => bd_c m U (hlen U hU) (hsub U hU) (.inl he)
  have hcl : ∀ C ∈ l, isK 15 C = true → ClR C := fun C hC h15 => by
   have hCm := hsub C hC C (self_pre C)
   have hCl := hlen C hC
   have hCs := hsub C hC
   obtain ⟨ck, cs, cn, cb, cl⟩ := C
   have hck : ck = 15 := by simpa [isK] using h15
   subst hck
   obtain ⟨P, X, rfl, hP, hX⟩ := pair_form (.inr rfl) hCm
   rw [pre_mk, pre_cons2] at hCl
   refine ⟨cs, cn, cb, P, X, rfl, bd_c m X (by omega) (fun V hV => hCs V ?_) (.inr ?_)⟩
   · rw [preL_cons, preL_nil, List.append_nil]
     exact List.mem_cons_of_mem _ (mem_pre (by simp) V hV)
   · obtain ⟨xk, xs, xn, xb, xl⟩ := X
     show xk = 16
     simpa [isK] using hX
  have hk' : (1 ≤ k ∧ k ≤ 13) ∨ k = 16 := by
   rcases hk with hk | hk
   · left; simpa [exV] using hk
   · right; exact hk
  by_cases h3 : k = 3
  · subst h3; exact bd3 s n b l
  by_cases h9 : k = 9
  ·
   subst h9
   simp [partsV] at hp
   have h2 : l.length = 2 := by omega
   match l, h2 with
   | [P, X], _ =>
    simp at hp
    exact bd9 s n b P X (ih X (by simp) hp.2)
  by_cases h12 : k = 12
  ·
   subst h12
   match l with
   | [] => simp [partsV] at hp
   | E :: cs =>
    simp [partsV] at hp
    refine bd12 s n b (E :: cs) E rfl (ih E (by simp) (by simpa using hp.1.2)) (fun i C hi hC => ?_)
    obtain ⟨j, rfl⟩ : ∃ j, i = j + 1 := ⟨i - 1, by omega⟩
    rw [List.getElem?_cons_succ] at hC
    have hm := List.mem_of_getElem? hC
    exact hcl C (by simp [hm]) (hp.2 C hm)
  by_cases h13 : k = 13
  ·
   subst h13
   simp [partsV] at hp
   obtain ⟨hne, hal⟩ := hp
   have hlp : 1 ≤ l.length := hne
   cases ha : aftV l with
   | false =>
    refine bd13a s n b l ha hlp (fun i C hC => ?_)
    have hm := List.mem_of_getElem? hC
    exact hcl C hm (hal C (by unfold clsV; rw [if_neg (by rw [ha]; simp)]; exact hm))
   | true =>
    have hA : l[l.length - 1]? = some l[l.length - 1] := List.getElem?_eq_getElem (by omega)
    have hAm := List.mem_of_getElem? hA
    have h14 : isK 14 l[l.length - 1] = true := by
     unfold aftV at ha
     rw [List.getLast?_eq_getElem?, hA] at ha
     simpa using ha
    have hAs := hsub _ hAm
    have hAl := hlen _ hAm
    generalize l[l.length - 1] = A at hA hAm h14 hAs hAl
    obtain ⟨ka, sa, na, bb, al⟩ := A
    have hka : ka = 14 := by simpa [isK] using h14
    obtain ⟨X, Y, rfl, hX, hY⟩ := pair_form (.inl hka) (hAs _ (self_pre _))
    rw [pre_mk, pre_cons2] at hAl
    have hin : ∀ U ∈ [X, Y], ∀ V ∈ preL [U], misV V = false := fun U hU V hV => hAs V (by
     rw [preL_cons, preL_nil, List.append_nil]
     exact List.mem_cons_of_mem _ (mem_pre hU V hV))
    refine bd13b s n b l ha ka sa na bb X Y hka hA (bd_c m X (by omega) (hin X (by simp)) (.inl hX)) (bd_c m Y (by omega) (hin Y (by simp)) (.inr ?_)) (fun i C hi hC => ?_)
    · obtain ⟨yk, ys, yn, yb, yl⟩ := Y
      show yk = 16
      simpa [isK] using hY
    · have hm := List.mem_of_getElem? hC
      refine hcl C hm (hal C ?_)
      unfold clsV
      rw [if_pos ha]
      refine List.mem_of_getElem? (i := i) ?_
      rw [List.getElem?_dropLast, if_pos (by omega)]
      exact hC
  refine bdD k s n b l h3 h9 h12 h13 (by omega) (fun U hU => ih U hU ?_)
  by_cases hz : k = 1 ∨ k = 2 ∨ k = 4
  · exfalso
    have : zL k = true := by rcases hz with rfl | rfl | rfl <;> rfl
    simp only [bareV, this, Bool.and_eq_true, Bool.not_true, Bool.false_or, beq_iff_eq, List.length_eq_zero_iff] at hb
    rw [hb.2] at hU
    cases hU
  ·
   simp only [partsV] at hp
   rw [if_neg (show ¬ (k = 1 ∨ k = 2 ∨ k = 3 ∨ k = 4) by omega)] at hp
   split at hp
   · exact List.all_eq_true.1 hp U hU
   split at hp
   · exact List.all_eq_true.1 (Bool.and_eq_true_iff.1 hp).2 U hU
   split at hp
   · exact List.all_eq_true.1 (Bool.and_eq_true_iff.1 hp).2 U hU
   rw [if_neg (show ¬ (k = 14 ∨ k = 15) by omega)] at hp
   split at hp
   · exact List.all_eq_true.1 (Bool.and_eq_true_iff.1 hp).2 U hU
   · rename_i h16
     exfalso; omega
end Go.Proofs.YtjedbfbolifjjaaGreatDoor
