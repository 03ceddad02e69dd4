/-
  The reference's some: kinds of parts from a place on up to another one.
  The reference's there: is there a function of a name with so many parameters?
  Rows of names that are read; the reference's has; a row of parts by their places.
-/
import Derived.Test.YtjedbfbolifjjaaGreatDoorMI
import Derived.Test.YtjedbfbolifjjaaGreatDoorKN
import Derived.Test.YtjedbfbolifjjaaGreatDoorJP
set_option linter.unusedVariables false
set_option linter.unusedSimpArgs false
namespace Go.Proofs.YtjedbfbolifjjaaGreatDoor
open Go.RowKit Go.Maps
variable {W W' : World}
/-- Is a tree's kind from a to b? -/
def kIn (a b : Int) : Tr → Bool
 | .mk k _ _ _ _ => decide (a ≤ k) && decide (k ≤ b)
def smV (a b : Int) (i j : Nat) (l : List Tr) : Bool := ((l.take j).drop i).all (kIn a b)
theorem smV_end (a b : Int) (i : Nat) (l : List Tr) : smV a b i i l = true := by
 unfold smV
 rw [List.drop_of_length_le (by rw [List.length_take]; omega)]
 rfl
theorem smV_step (a b : Int) {i j : Nat} {l : List Tr} {U : Tr} (hij : i < j) (hU : l[i]? = some U) : smV a b i j l = (kIn a b U && smV a b (i + 1) j l) := by
 unfold smV
 obtain ⟨hi, rfl⟩ := List.getElem?_eq_some_iff.1 hU
 rw [List.drop_eq_getElem_cons (by rw [List.length_take]; omega), List.all_cons, List.getElem_take]
set_option maxRecDepth 100000 in
set_option maxHeartbeats 1600000 in
theorem rsome_c (N : Nat) (W : World) (k : Int) (s : ByteArray) (n : Int) (bv : Value) (hbv : ∃ x y z, bv = .slice x y z) (la : Option Addr) (lc : Nat) (l : List Tr) (i0 j : Nat) (a b : Int) (hrow : RowAt N W la l) (hN : N ≤ W.heap.size) (hi0 : i0 ≤ j) (hj : j ≤ l.length) (hl : l.length ≤ 4611686018427387904) :
 Calls Tryz.prog 60 #[trv k s n bv (.slice la l.length lc), .int .i64 (i0 : Int), .int .i64 (j : Int), .int .i64 a, .int .i64 b] W fun e w' => e = .returned (.bool (smV a b i0 j l)) ∧ Gr (fun _ => False) W w' := by
 obtain ⟨x, y, z, rfl⟩ := hbv
 have gA := Gr.alloc W (.cells #[.int .i64 k, .string s, .int .i64 n, .slice x y z, .slice la l.length lc] 25) (fun _ => False)
 obtain ⟨⟨m0, m1, m2, m3, m4⟩, _⟩ := five_cells (heap_alloc_new W (.cells #[.int .i64 k, .string s, .int .i64 n, .slice x y z, .slice la l.length lc] 25))
 have hsz1 : (W.alloc (.cells #[.int .i64 k, .string s, .int .i64 n, .slice x y z, .slice la l.length lc] 25)).heap.size = W.heap.size + 1 := by simp
 obtain ⟨r, hr⟩ : ∃ r, r = smV a b i0 j l := ⟨_, rfl⟩
 rw [← hr]
 replace hr := Lib.hid hr
 obtain ⟨tb, htb⟩ : ∃ tb, W.heap.size = tb := ⟨_, rfl⟩
 rw [htb] at m0 m1 m2 m3 m4 hsz1 hN
 have hjI : (j : Int) ≤ 4611686018427387904 := by omega
 have hlI : (l.length : Int) ≤ 4611686018427387904 := by omega
 have hjl : (j : Int) ≤ (l.length : Int) := by omega
 replace hrow := Lib.hid hrow
 have hgA := Lib.hid gA
 have hm4 := Lib.hid m4
 have hs1 := Lib.hid hsz1
 clear hsz1 gA m0 m1 m2 m3
 go_enter Tryz.func60, Tryz.ntmps60
 go_wp2_with fail
 replace htb := Lib.hid htb
 generalize W.alloc (.cells #[.int .i64 k, .string s, .int .i64 n, .slice x y z, .slice la l.length lc] 25) = W1 at hgA hm4 hs1 m4 ⊢
 clear m4
 go_loopw [11] (fun u wr => ∃ i : Nat, i ≤ j ∧ u = .int .i64 (i : Int) ∧ Hid (r = smV a b i j l) ∧ Gr (fun _ => False) W1 wr) (fun u _ => j - (intOf u).toNat)
 case atStart => exact ⟨i0, hi0, rfl, hr, Gr.refl _ _⟩
 case round =>
  obtain ⟨i, hi, rfl, hR, hG⟩ := hrel
  have y4 := cell_gr hm4.out hG (fun e => e)
  have hs2 := hG.size
  have htl : tb < wr.heap.size := by have := hs1.out; omega
  by_cases hlt : i < j
  ·
   have hd : decide ((i : Int) < (j : Int)) = true := by simp; omega
   have hil : i < l.length := by omega
   have hiI : (i : Int) < (l.length : Int) := by omega
   have hTi : l[i]? = some l[i] := List.getElem?_eq_getElem hil
   obtain ⟨g', o', rfl, hg', hTA⟩ := hrow.out i _ hTi
   have hst := smV_step a b hlt hTi
   generalize l[i] = U at hTA hst
   obtain ⟨uk, us, un, ub, ul⟩ := U
   obtain ⟨ba', bc', la', lc', ⟨z0, z1, z2, z3, z4⟩, _, hgl'⟩ := (hTA.g0 (hgA.out.trans hG) hg').parts
   have hR' : Hid (r = (kIn a b (.mk uk us un ub ul) && smV a b (i + 1) j l)) := hR.out.trans hst
   have hb := Lib.hid hi
   clear hTA hTi hst z1 z2 z3 z4 hR
   by_cases e1 : uk < a
   · have d1 : decide (uk < a) = true := by simpa using e1
     have hrf : Hid (r = false) := by
      show _ = _
      rw [hR'.out]; simp [kIn]; omega
     go_wp2_with fail
     go_ret
     exact ⟨by rw [hrf.out]; rfl, hgA.out.trans hG⟩
   ·
    have d1 : decide (uk < a) = false := by simpa using e1
    by_cases e2 : b < uk
    · have d2 : decide (b < uk) = true := by simpa using e2
      have hrf : Hid (r = false) := by
       show _ = _
       rw [hR'.out]; simp [kIn]; omega
      go_wp2_with fail
      go_ret
      exact ⟨by rw [hrf.out]; rfl, hgA.out.trans hG⟩
    · have d2 : decide (b < uk) = false := by simpa using e2
      have hrf : Hid (r = smV a b (i + 1) j l) := by
       show _ = _
       rw [hR'.out]
       have : kIn a b (.mk uk us un ub ul) = true := by simp [kIn]; omega
       rw [this]; rfl
      go_wp2_with fail
      exact ⟨⟨i + 1, hlt, by go_num, hrf, hG⟩, by simp [intOf]; omega⟩
  ·
   have hd : decide ((i : Int) < (j : Int)) = false := by simp; omega
   have hie : i = j := by omega
   have hrf : Hid (r = true) := by
    show _ = _
    rw [hR.out, hie, smV_end]
   clear hie
   go_wp2_with fail
   go_ret
   exact ⟨by rw [hrf.out]; rfl, hgA.out.trans hG⟩
end Go.Proofs.YtjedbfbolifjjaaGreatDoor

namespace Go.Proofs.YtjedbfbolifjjaaGreatDoor
open Go.RowKit Go.Maps
variable {W W' : World}
def thT (s : ByteArray) (m : Int) : Tr → Bool
 | .mk _ us _ _ ul => (us.toList == s.toList) && (((ul.length : Int) - 1) == m)
theorem any_drop {α : Type} (p : α → Bool) {i : Nat} {l : List α} {U : α} (hU : l[i]? = some U) : (l.drop i).any p = (p U || (l.drop (i + 1)).any p) := by
 obtain ⟨hi, rfl⟩ := List.getElem?_eq_some_iff.1 hU
 rw [List.drop_eq_getElem_cons hi, List.any_cons]
set_option maxRecDepth 100000 in
set_option maxHeartbeats 1600000 in
theorem rthere_c (N : Nat) (W : World) (k : Int) (s0 : ByteArray) (n : Int) (bv : Value) (hbv : ∃ x y z, bv = .slice x y z) (la : Option Addr) (lc : Nat) (l : List Tr) (s : ByteArray) (m : Int) (hrow : RowAt N W la l) (hN : N ≤ W.heap.size) (hl : l.length ≤ 4611686018427387904) (hls : ∀ U ∈ l, U.l.length ≤ 4611686018427387904) :
 Calls Tryz.prog 33 #[trv k s0 n bv (.slice la l.length lc), .string s, .int .i64 m] W fun e w' => e = .returned (.bool (l.any (thT s m))) ∧ Gr (fun _ => False) W w' := by
 obtain ⟨x, y, z, rfl⟩ := hbv
 have gA := Gr.alloc W (.cells #[.int .i64 k, .string s0, .int .i64 n, .slice x y z, .slice la l.length lc] 25) (fun _ => False)
 obtain ⟨⟨m0, m1, m2, m3, m4⟩, _⟩ := five_cells (heap_alloc_new W (.cells #[.int .i64 k, .string s0, .int .i64 n, .slice x y z, .slice la l.length lc] 25))
 have hsz1 : (W.alloc (.cells #[.int .i64 k, .string s0, .int .i64 n, .slice x y z, .slice la l.length lc] 25)).heap.size = W.heap.size + 1 := by simp
 obtain ⟨r, hr⟩ : ∃ r, r = (l.drop 0).any (thT s m) := ⟨_, rfl⟩
 rw [show l.any (thT s m) = r from hr.symm]
 replace hr := Lib.hid hr
 obtain ⟨tb, htb⟩ : ∃ tb, W.heap.size = tb := ⟨_, rfl⟩
 rw [htb] at m0 m1 m2 m3 m4 hsz1 hN
 have hlI : (l.length : Int) ≤ 4611686018427387904 := by omega
 replace hrow := Lib.hid hrow
 have hgA := Lib.hid gA
 have hm4 := Lib.hid m4
 have hs1 := Lib.hid hsz1
 replace hls := Lib.hid hls
 clear hsz1 gA m0 m1 m2 m3
 go_enter Tryz.func33, Tryz.ntmps33
 go_wp2_with fail
 replace htb := Lib.hid htb
 generalize W.alloc (.cells #[.int .i64 k, .string s0, .int .i64 n, .slice x y z, .slice la l.length lc] 25) = W1 at hgA hm4 hs1 m4 ⊢
 clear m4
 go_loopw [7] (fun u wr => ∃ i : Nat, i ≤ l.length ∧ u = .int .i64 (i : Int) ∧ Hid (r = (l.drop i).any (thT s m)) ∧ Gr (fun _ => False) W1 wr) (fun u _ => l.length - (intOf u).toNat)
 case atStart => exact ⟨0, Nat.zero_le _, rfl, hr, Gr.refl _ _⟩
 case round =>
  obtain ⟨i, hi, rfl, hR, hG⟩ := hrel
  have y4 := cell_gr hm4.out hG (fun e => e)
  have hs2 := hG.size
  have htl : tb < wr.heap.size := by have := hs1.out; omega
  by_cases hlt : i < l.length
  ·
   have hd : decide ((i : Int) < (l.length : Int)) = true := by simp; omega
   have hTi : l[i]? = some l[i] := List.getElem?_eq_getElem hlt
   obtain ⟨g', o', rfl, hg', hTA⟩ := hrow.out i _ hTi
   have hst := any_drop (thT s m) hTi
   have hul := hls.out l[i] (List.getElem_mem hlt)
   generalize l[i] = U at hTA hst hul
   obtain ⟨uk, us, un, ub, ul⟩ := U
   dsimp only at hul
   obtain ⟨ba', bc', la', lc', ⟨z0, z1, z2, z3, z4⟩, _, hgl'⟩ := (hTA.g0 (hgA.out.trans hG) hg').parts
   have hR' : Hid (r = (((us.toList == s.toList) && (((ul.length : Int) - 1) == m)) || (l.drop (i + 1)).any (thT s m))) := hR.out.trans hst
   have hb := Lib.hid hi
   have hulI : (ul.length : Int) ≤ 4611686018427387904 := by omega
   clear hTA hTi hst z0 z2 z3 hR hul
   cases e1 : (us.toList == s.toList) with
   | false =>
    have hrf : Hid (r = (l.drop (i + 1)).any (thT s m)) := by show _ = _; rw [hR'.out, e1]; rfl
    go_wp2_with fail
    exact ⟨⟨i + 1, hlt, by go_num, hrf, hG⟩, by simp [intOf]; omega⟩
   | true =>
    cases e2 : (((ul.length : Int) - 1) == m) with
    | false =>
     have hrf : Hid (r = (l.drop (i + 1)).any (thT s m)) := by show _ = _; rw [hR'.out, e1, e2]; rfl
     go_wp2_with fail
     exact ⟨⟨i + 1, hlt, by go_num, hrf, hG⟩, by simp [intOf]; omega⟩
    | true =>
     have hrf : Hid (r = true) := by show _ = _; rw [hR'.out, e1, e2]; rfl
     go_wp2_with fail
     go_ret
     exact ⟨by rw [hrf.out]; rfl, hgA.out.trans hG⟩
  ·
   have hd : decide ((i : Int) < (l.length : Int)) = false := by simp; omega
   have hie : i = l.length := by omega
   have hrf : Hid (r = false) := by
    show _ = _
    rw [hR.out, hie, List.drop_length]; rfl
   clear hie
   go_wp2_with fail
   go_ret
   exact ⟨by rw [hrf.out]; rfl, hgA.out.trans hG⟩
end Go.Proofs.YtjedbfbolifjjaaGreatDoor

namespace Go.Proofs.YtjedbfbolifjjaaGreatDoor
open Go.RowKit Go.Maps
variable {W W' : World}
theorem bs_eq {a b : ByteArray} : (a.toList == b.toList) = decide (a = b) := by
 rw [Bool.eq_iff_iff, beq_iff_eq, decide_eq_true_eq]
 constructor
 · intro h
   rw [ByteArray.toList_eq, ByteArray.toList_eq] at h
   exact ByteArray.ext (Array.toList_inj.1 h)
 · rintro rfl; rfl
theorem new_cell (w : World) (s : ByteArray) : (w.alloc (.cells #[.string s] 9)).cell? ⟨w.heap.size, 0, none⟩ = some (.string s) := (one_cell (heap_alloc_new w (.cells #[.string s] 9))).1
/-- A row of names that may be read. -/
def Nr (N : Nat) (W : World) (v : Value) (b : List ByteArray) : Prop := ∃ a c, v = .slice a b.length c ∧ b.length ≤ c ∧ ∀ (i : Nat) (s : ByteArray), b[i]? = some s → ∃ g, a = some ⟨g, 0, none⟩ ∧ g < N ∧ W.cell? ⟨g, i, none⟩ = some (.string s)
theorem Nr.g0 {N : Nat} {v : Value} {b : List ByteArray} (h : Nr N W v b) (gr : Gr (fun _ => False) W W') : Nr N W' v b := by
 obtain ⟨a, c, rfl, hc, hk⟩ := h
 refine ⟨a, c, rfl, hc, fun i s hi => ?_⟩
 obtain ⟨g, h1, h2, h3⟩ := hk i s hi
 exact ⟨g, h1, h2, cell_gr h3 gr (fun e => e)⟩
theorem Nr.up {N N' : Nat} {v : Value} {b : List ByteArray} (h : Nr N W v b) (hN : N ≤ N') : Nr N' W v b := by
 obtain ⟨a, c, rfl, hc, hk⟩ := h
 refine ⟨a, c, rfl, hc, fun i s hi => ?_⟩
 obtain ⟨g, h1, h2, h3⟩ := hk i s hi
 exact ⟨g, h1, Nat.lt_of_lt_of_le h2 hN, h3⟩
theorem Nr.nil (N : Nat) (W : World) : Nr N W nl [] := ⟨none, 0, rfl, Nat.le_refl _, fun i s h => by simp at h⟩
theorem Nr.take {N : Nat} {a : Option Addr} {n c : Nat} {b : List ByteArray} (h : Nr N W (.slice a n c) b) (k : Nat) (hk : k ≤ b.length) : Nr N W (.slice a k c) (b.take k) := by
 obtain ⟨a', c', e, hc, hk'⟩ := h
 cases e
 refine ⟨a, c, by rw [List.length_take]; congr; omega, by rw [List.length_take]; omega, fun i s hi => ?_⟩
 have hlt := (List.getElem?_eq_some_iff.1 hi).1
 rw [List.length_take] at hlt
 rw [List.getElem?_take_of_lt (by omega)] at hi
 exact hk' i s hi
theorem Ns.nr {base : Nat} {v : Value} {ns : List ByteArray} (h : Ns base W v ns) : Nr W.heap.size W v ns := by
 rcases h.row.2 with ⟨e, h0⟩ | ⟨g, cap, cur, e, hg, h2, h3, _, _, h6⟩
 · have : ns = [] := List.eq_nil_of_length_eq_zero h0
   subst this
   exact ⟨none, 0, by rw [e]; rfl, Nat.le_refl _, fun i s h => by simp at h⟩
 ·
  refine ⟨some ⟨g, 0, none⟩, cap, e, h3, fun i s hi => ⟨g, rfl, (Array.getElem?_eq_some_iff.1 h2).1, ?_⟩⟩
  have hlt := (List.getElem?_eq_some_iff.1 hi).1
  have hj : (ns.map Value.string)[i]? = some (.string s) := by rw [List.getElem?_map, hi]; rfl
  rw [← h6, List.getElem?_take_of_lt (by omega)] at hj
  simp only [World.cell?, h2]
  simpa using hj
set_option maxRecDepth 100000 in
set_option maxHeartbeats 1600000 in
theorem rhas_c (N : Nat) (W : World) (v : Value) (b : List ByteArray) (s : ByteArray) (h : Nr N W v b) (hN : N ≤ W.heap.size) (hl : b.length ≤ 4611686018427387904) : Calls Tryz.prog 30 #[v, .string s] W fun e w' => e = .returned (.bool (inL b s)) ∧ w' = W := by
 obtain ⟨a, c, rfl, hc, hk⟩ := h
 obtain ⟨r, hr⟩ : ∃ r, r = (b.drop 0).any (fun x : ByteArray => x.toList == s.toList) := ⟨_, rfl⟩
 have e0 : inL b s = r := by
  rw [hr, List.drop_zero]
  unfold inL
  congr 1
  funext x
  rw [bs_eq]
 rw [e0]
 replace hr := Lib.hid hr
 replace hk := Lib.hid hk
 have hlI : (b.length : Int) ≤ 4611686018427387904 := by omega
 clear e0 hc
 go_enter Tryz.func30, Tryz.ntmps30
 go_wp2_with fail
 go_loopw [5] (fun u wr => ∃ i : Nat, i ≤ b.length ∧ u = .int .i64 (i : Int) ∧ Hid (r = (b.drop i).any (fun x : ByteArray => x.toList == s.toList)) ∧ wr = W) (fun u _ => b.length - (intOf u).toNat)
 case atStart => exact ⟨0, Nat.zero_le _, rfl, hr, rfl⟩
 case round =>
  obtain ⟨i, hi, rfl, hR, rfl⟩ := hrel
  by_cases hlt : i < b.length
  ·
   have hd : decide ((i : Int) < (b.length : Int)) = true := by simp; omega
   have hTi : b[i]? = some b[i] := List.getElem?_eq_getElem hlt
   obtain ⟨g, rfl, hg, hcell⟩ := hk.out i _ hTi
   have hst := any_drop (fun x : ByteArray => x.toList == s.toList) hTi
   generalize b[i] = x at hcell hst
   have hgl : g < wr.heap.size := by omega
   have hR' : Hid (r = ((x.toList == s.toList) || (b.drop (i + 1)).any (fun x : ByteArray => x.toList == s.toList))) := hR.out.trans hst
   have hb := Lib.hid hi
   clear hTi hst hR
   cases e1 : (x.toList == s.toList) with
   | true =>
    have hrf : Hid (r = true) := by show _ = _; rw [hR'.out, e1]; rfl
    go_wp2_with fail
    go_ret
    exact ⟨by rw [hrf.out]; rfl, by first | trivial | rfl⟩
   | false =>
    have hrf : Hid (r = (b.drop (i + 1)).any (fun x : ByteArray => x.toList == s.toList)) := by show _ = _; rw [hR'.out, e1]; rfl
    go_wp2_with fail
    exact ⟨⟨i + 1, hlt, by go_num, hrf, by first | trivial | rfl⟩, by simp [intOf]; omega⟩
  ·
   have hd : decide ((i : Int) < (b.length : Int)) = false := by simp; omega
   have hie : i = b.length := by omega
   have hrf : Hid (r = false) := by
    show _ = _
    rw [hR.out, hie, List.drop_length]; rfl
   clear hie
   go_wp2_with fail
   go_ret
   exact ⟨by rw [hrf.out]; rfl, by first | trivial | rfl⟩
/-- A row of one's own as parts by their places. -/
theorem rowat_own {base n c : Nat} {la : Option Addr} {l : List Tr} {us : List Value} (hr : W.ownsRow base 25 5 (.slice la n c) l.length (us.flatMap cellsOf)) (hp : RepsG (fun z => z < W.heap.size) W l us) : RowAt W.heap.size W la l := fun i T hi => by
 have hlt := (List.getElem?_eq_some_iff.1 hi).1
 obtain ⟨g, c', e, hc⟩ := row_cells hr (by omega)
 cases e
 obtain ⟨v', h1, h2⟩ := RepsG.at hp i T hi
 have hadd : ∀ j, (⟨g, 0, none⟩ : Addr).add j = ⟨g, j, none⟩ := fun j => by unfold Addr.add; split <;> simp_all
 have hcc : ∀ j u, (cellsOf v')[j]? = some u → W.cell? ⟨g, 0 + i * 5 + j, none⟩ = some u := fun j u hj => by
  have := hc _ _ (h2 j u hj)
  rw [hadd] at this
  rw [Nat.zero_add]; exact this
 obtain ⟨_, _, _, _, _, _, _, _, _, rfl⟩ := h1.agg
 exact ⟨g, 0, rfl, World.block_lt_of_cell? _ _ (hcc 0 _ rfl), _, h1, hcc⟩
/-- A tree by value: its five values, and its parts by their places. -/
theorem rep_row {N : Nat} {k : Int} {s : ByteArray} {n : Int} {b : List Int} {l : List Tr} {v : Value} (h : RepG (fun z => z < N) W (.mk k s n b l) v) : ∃ ba bc la lc, v = trv k s n (.slice ba b.length bc) (.slice la l.length lc) ∧ RowAt N W la l := by
 obtain ⟨ba, bc, la, lc, rfl, hk⟩ := h.parts
 refine ⟨ba, bc, la, lc, rfl, fun i T hi => ?_⟩
 obtain ⟨g', o', v', e, hl, hA, hR, hc⟩ := hk i T hi
 exact ⟨g', o', e, hA, v', hR, hc⟩
/-- A part at its place, loaded by value. -/
theorem TAtG.val {N g o : Nat} {T : Tr} (h : TAtG N W g o T) : ∃ v, RepG (fun z => z < N) W T v ∧ (∃ tk tt tn a1 n1 c1 a2 n2 c2, v = trv tk tt tn (.slice a1 n1 c1) (.slice a2 n2 c2)) ∧ ∀ j u, (cellsOf v)[j]? = some u → W.cell? ⟨g, o + j, none⟩ = some u := by
 obtain ⟨v, h1, h2⟩ := h
 exact ⟨v, h1, h1.agg, h2⟩
end Go.Proofs.YtjedbfbolifjjaaGreatDoor
