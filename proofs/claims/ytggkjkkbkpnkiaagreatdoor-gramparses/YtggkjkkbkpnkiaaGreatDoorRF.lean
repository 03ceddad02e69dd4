/-
  The reference's chain.
-/
import Derived.Test.YtggkjkkbkpnkiaaGreatDoorRD
import Derived.Test.YtggkjkkbkpnkiaaGreatDoorRA
import Derived.Test.YtggkjkkbkpnkiaaGreatDoorGL
set_option linter.unusedVariables false
set_option linter.unusedSimpArgs false
namespace Go.Proofs.YtggkjkkbkpnkiaaGreatDoor
open Go.RowKit Go.Maps
variable {x : Kx} {W W' : World} {p p' : Ps}
/-- What chain answers of a level. -/
def COk (x : Kx) (lev : Int) (d : Nat) (g : Rule) : Prop := ∀ (W : World) (p : Ps), Rz x W p → p.d = d → Calls Tryz.prog 62 #[stv x p, .int .i64 lev] W fun e w' => EndX x W p e w' (g p)
/-- The signs of a level, as the reference has them. -/
def sgsOf (lev : Int) : List ByteArray := (jAll.filter fun y => y.2 == lev).map (·.1)
theorem sgs_of0 : sgsOf 0 = sgs0 := rfl
theorem sgs_of1 : sgsOf 1 = sgs1 := rfl
theorem sgs_of2 : sgsOf 2 = sgs2 := rfl
theorem j_full : ∀ y ∈ jAll, y.1 ≠ e0 := by decide
theorem joins_yes {ts : List Tn} {lev : Int} {p : Ps} (h : (sgsOf lev).any (isV ts p) = true) : joinsV ts lev p = (pkT ts p).s ∧ joinsV ts lev p ≠ e0 := by
  unfold joinsV
  cases hf : jAll.find? fun y => (y.2 == lev) && isV ts p y.1 with
  | none =>
    exfalso
    rw [List.find?_eq_none] at hf
    obtain ⟨s, hs, hv⟩ := List.any_eq_true.1 h
    obtain ⟨y, hy, rfl⟩ := List.mem_map.1 hs
    obtain ⟨h1, h2⟩ := List.mem_filter.1 hy
    have := hf y h1
    simp [h2, hv] at this
  | some y =>
    have h1 := List.find?_some hf
    have h2 := List.mem_of_find?_eq_some hf
    rw [Bool.and_eq_true] at h1
    have h3 := h1.2
    unfold isV at h3
    rw [Bool.and_eq_true, beq_iff_eq] at h3
    have h4 : (pkT ts p).s = y.1 := by
      have := h3.2
      rw [ByteArray.toList_eq, ByteArray.toList_eq] at this
      exact ByteArray.ext (Array.toList_inj.1 this)
    exact ⟨h4.symm, j_full y h2⟩
theorem joins_no {ts : List Tn} {lev : Int} {p : Ps} (h : (sgsOf lev).any (isV ts p) = false) : joinsV ts lev p = e0 := by
  unfold joinsV
  have hf : (jAll.find? fun y => (y.2 == lev) && isV ts p y.1) = none := by
    rw [List.find?_eq_none]
    intro y hy hh
    rw [Bool.and_eq_true] at hh
    have := List.any_eq_false.1 h y.1 (List.mem_map.2 ⟨y, List.mem_filter.2 ⟨hy, hh.1⟩, rfl⟩)
    exact this hh.2
  rw [hf]; rfl
theorem any_lt' {ts : List Tn} {L : List ByteArray} {q : Ps} (h : L.any (isV ts q) = true) : q.e = 0 ∧ q.i < ts.length := by
  obtain ⟨s, _, hs⟩ := List.any_eq_true.1 h
  exact isV_lt' hs
theorem ne_e0 {s : ByteArray} (h : s ≠ e0) : (s.toList == []) = false := by
  rw [Bool.eq_false_iff]
  intro hh
  have := beq_iff_eq.1 hh
  rw [ByteArray.toList_eq] at this
  exact h (ByteArray.ext (Array.toList_inj.1 this))
/-- The world behind a round of chain. -/
theorem chain_x {w4 X : World} {b ab : Nat} {q' : Ps} {T U : Tr} {k n k' n' : Int} {s s' sg : ByteArray} {bv lv bv' lv' : Value} {z0 z1 z2 z3 z4 : Value} (hb : b + 3 ≤ ab) (hab : ab < w4.heap.size) (h0 : w4.heap[b]? = some (stb x p)) (h1 : w4.heap[ab]? = some (.cells #[z0, z1, z2, z3, z4] 30 (0, 0)))
    (hT : q'.e = 0 → Rep (fun z => b + 3 ≤ z ∧ z ≠ ab) w4 T (trv k s n bv lv)) (hU : q'.e = 0 → Rep (fun z => b + 3 ≤ z ∧ z ≠ ab) w4 U (trv k' s' n' bv' lv'))
    (hX : (((set5 (set4 w4 b (.slice x.a x.ts.length x.c) (.int .i64 (q'.i : Int)) (.int .i64 (q'.d : Int)) (.int .i64 q'.e)) ab (.int .i64 8) (.string sg) (.int .i64 0) nl (.slice (some ⟨w4.heap.size + 1 + 1, 0, none⟩) 2 2)).alloc (stb x q')).alloc (.cells #[.int .i64 k', .string s', .int .i64 n', bv', lv'] 30)).alloc (.cells #[.int .i64 k, .string s, .int .i64 n, bv, lv, .int .i64 k', .string s', .int .i64 n', bv', lv'] 30) = X) :
    Gr (fun z => z = b ∨ z = ab) w4 X ∧ X.heap[b]? = some (stb x q') ∧ X.heap[ab]? = some (.cells #[.int .i64 8, .string sg, .int .i64 0, nl, .slice (some ⟨w4.heap.size + 1 + 1, 0, none⟩) 2 2] 30 (0, 0)) ∧
      (q'.e = 0 → Rep (fun z => b + 3 ≤ z ∧ z ≠ ab) X (.mk 8 sg 0 [] [T, U]) (trv 8 sg 0 nl (.slice (some ⟨w4.heap.size + 1 + 1, 0, none⟩) 2 2))) := by
  have gs := set4_gr w4 b (.slice x.a x.ts.length x.c) (.int .i64 (q'.i : Int)) (.int .i64 (q'.d : Int)) (.int .i64 q'.e)
  have hf := set4_heap h0 (.slice x.a x.ts.length x.c) (.int .i64 (q'.i : Int)) (.int .i64 (q'.d : Int)) (.int .i64 q'.e)
  have ha := gs.keep h1 (by omega)
  have hs5 : (set4 w4 b (.slice x.a x.ts.length x.c) (.int .i64 (q'.i : Int)) (.int .i64 (q'.d : Int)) (.int .i64 q'.e)).heap.size = w4.heap.size := by simp
  generalize set4 w4 b _ _ _ _ = w5 at gs hf ha hs5 hX
  have gt := set5_gr w5 ab (.int .i64 8) (.string sg) (.int .i64 0) nl (.slice (some ⟨w4.heap.size + 1 + 1, 0, none⟩) 2 2)
  have hfa := set5_heap ha (.int .i64 8) (.string sg) (.int .i64 0) nl (.slice (some ⟨w4.heap.size + 1 + 1, 0, none⟩) 2 2)
  have hfb := gt.keep hf (by omega)
  have hs6 : (set5 w5 ab (.int .i64 8) (.string sg) (.int .i64 0) nl (.slice (some ⟨w4.heap.size + 1 + 1, 0, none⟩) 2 2)).heap.size = w4.heap.size := by simp [hs5]
  generalize set5 w5 ab _ _ _ _ _ = w6 at gt hfa hfb hs6 hX
  have ga := G2 w6 (stb x q') (.cells #[.int .i64 k', .string s', .int .i64 n', bv', lv'] 30)
  have hs8 : ((w6.alloc (stb x q')).alloc (.cells #[.int .i64 k', .string s', .int .i64 n', bv', lv'] 30)).heap.size = w4.heap.size + 1 + 1 := by simp [hs6]
  have hb8 := ga.keep hfb (fun e => e)
  have ha8 := ga.keep hfa (fun e => e)
  generalize (w6.alloc _).alloc _ = w8 at ga hs8 hb8 ha8 hX
  have gy := Gr.alloc w8 (.cells #[.int .i64 k, .string s, .int .i64 n, bv, lv, .int .i64 k', .string s', .int .i64 n', bv', lv'] 30) (fun _ => False)
  have hTu : Turn (fun z => b + 3 ≤ z ∧ z ≠ ab) (fun z => b + 3 ≤ z ∧ z ≠ ab) w4 w8 := fun z hz hl => ⟨hz, ((ga.block z (by have := gs.size; have := gt.size; omega) (fun e => e)).trans (gt.block z (by have := gs.size; omega) hz.2)).trans (gs.block z hl (by have := hz.1; omega))⟩
  have hN : q'.e = 0 → Rep (fun z => b + 3 ≤ z ∧ z ≠ ab) (w8.alloc (.cells #[.int .i64 k, .string s, .int .i64 n, bv, lv, .int .i64 k', .string s', .int .i64 n', bv', lv'] 30)) (.mk 8 sg 0 [] [T, U]) (trv 8 sg 0 nl (.slice (some ⟨w8.heap.size, 0, none⟩) 2 2)) := fun he => node2_rep 8 sg ((hT he).turn hTu) ((hU he).turn hTu) ⟨by omega, by omega⟩
  rw [hs8] at hN
  subst hX
  exact ⟨(((gs.mono (fun i hi e => .inl e)).trans' gt (fun i hi e => .inr e)).trans (ga.any _)).trans (gy.any _), gy.keep hb8 (fun e => e), gy.keep ha8 (fun e => e), hN⟩
set_option maxRecDepth 100000 in
set_option maxHeartbeats 1200000 in
theorem rchain3_c (d : Nat) (un : Rule) (hun : ROk x 74 d un) : COk x 3 d un := by
  intro W p h hd
  obtain ⟨g0, b0, b1, b2, hz0⟩ := open3 (x := x) W p
  obtain ⟨b, hb⟩ : ∃ b, W.heap.size = b := ⟨_, rfl⟩
  have hcall := hun _ p (h.g0 g0) hd
  have hbW := Lib.hid hb
  clear hd h
  obtain ⟨r, q, hrq⟩ : ∃ (r : Tr) (q : Ps), un p = (r, q) := ⟨_, _, rfl⟩
  rw [hrq] at hcall ⊢
  replace hcall : Calls _ _ _ _ fun e w' => EndX x _ p e w' (r, q) := hcall
  clear hrq
  go_enter Tryz.func62, Tryz.ntmps62
  go_wp2_with fail
  generalize ((W.alloc _).alloc _).alloc _ = W1 at g0 b0 b1 b2 hz0 hcall ⊢
  rw [hb] at b0 b1 b2 hz0
  refine hcall.mono ?_
  rintro e w2 ⟨tk, tt, tn, a1, n1, c1, a2, n2, c2, rfl, rep2, hi2, g2⟩
  have C1 := g2.keep b1 (fun e => e)
  have C2 := g2.keep b2 (fun e => e)
  obtain ⟨E1, E2, E3, E4⟩ := end3 (x := x) (q := q) (T := r) (k := tk) (s := tt) (n := tn) (bv := .slice a1 n1 c1) (lv := .slice a2 n2 c2) (g0.trans g2) hbW.out C1 C2 (fun he => (rep2 he).turn (fun z hz hl => ⟨by have h9 : W1.heap.size ≤ z := hz; show b + 3 ≤ z; omega, rfl⟩))
  obtain ⟨wF, hwF⟩ : ∃ wF, set5 (set4 w2 (b + 1) (.slice x.a x.ts.length x.c) (.int .i64 (q.i : Int)) (.int .i64 (q.d : Int)) (.int .i64 q.e)) (b + 2) (.int .i64 tk) (.string tt) (.int .i64 tn) (.slice a1 n1 c1) (.slice a2 n2 c2) = wF := ⟨_, rfl⟩
  rw [hwF] at E1 E2 E3 E4
  replace E1 := Lib.hid E1
  replace E2 := Lib.hid E2
  replace E3 := Lib.hid E3
  replace E4 := Lib.hid E4
  replace hwF := Lib.hid hwF
  obtain ⟨⟨y0, y1, y2, y3⟩, v0, v1, v2, v3⟩ := four_cells C1
  obtain ⟨⟨m0, m1, m2, m3, m4⟩, o0, o1, o2, o3, o4⟩ := five_cells C2
  have hlz : b + 2 < w2.heap.size := (Array.getElem?_eq_some_iff.1 C2).1
  have hlz' : b + 1 < w2.heap.size := by omega
  replace hi2 := Lib.hid hi2
  clear C1 C2 rep2 hcall b0 b1 b2 g0 g2
  go_wp2_with fail
  rw [show ((((((((w2.setCell ⟨b + 1, 0, none⟩ (.slice x.a x.ts.length x.c)).setCell ⟨b + 1, 1, none⟩ (.int .i64 (q.i : Int))).setCell ⟨b + 1, 2, none⟩ (.int .i64 (q.d : Int))).setCell ⟨b + 1, 3, none⟩ (.int .i64 q.e)).setCell ⟨b + 1 + 1, 0, none⟩ (.int .i64 tk)).setCell ⟨b + 1 + 1, 1, none⟩ (.string tt)).setCell ⟨b + 1 + 1, 2, none⟩ (.int .i64 tn)).setCell ⟨b + 1 + 1, 3, none⟩ (.slice a1 n1 c1)).setCell ⟨b + 1 + 1, 4, none⟩ (.slice a2 n2 c2) = wF from hwF.out]
  clear y0 y1 y2 y3 v0 v1 v2 v3 m0 m1 m2 m3 m4 o0 o1 o2 o3 o4
  have E1' := E1.out
  have E2' : wF.heap[b + 1 + 1]? = some (.cells #[.int .i64 tk, .string tt, .int .i64 tn, .slice a1 n1 c1, .slice a2 n2 c2] 30 (0, 0)) := E2.out
  obtain ⟨⟨t0, t1, t2, t3⟩, _⟩ := four_cells E1'
  obtain ⟨⟨s0, s1, s2, s3, s4⟩, _⟩ := five_cells E2'
  refine bodyPost_ret (v := .tuple #[stv x q, trv (tk) (tt) (tn) (.slice a1 n1 c1) (.slice a2 n2 c2)]) (by simp [results, Tryz.results62, go_sem, t0, t1, t2, t3, s0, s1, s2, s3, s4]) rfl ⟨tk, tt, tn, a1, n1, c1, a2, n2, c2, rfl, E3.out, hi2.out, E4.out⟩
end Go.Proofs.YtggkjkkbkpnkiaaGreatDoor
