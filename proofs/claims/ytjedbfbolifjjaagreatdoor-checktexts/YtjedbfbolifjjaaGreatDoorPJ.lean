/-
  The reference's Check.
-/
import Derived.Test.YtjedbfbolifjjaaGreatDoorPH
import Derived.Test.YtjedbfbolifjjaaGreatDoorPAb
import Derived.Test.YtjedbfbolifjjaaGreatDoorPC
import Derived.Test.YtjedbfbolifjjaaGreatDoorKD
import Derived.Test.YtjedbfbolifjjaaGreatDoorPE
set_option linter.unusedVariables false
set_option linter.unusedSimpArgs false
namespace Go.Proofs.YtjedbfbolifjjaaGreatDoor
open Go.RowKit Go.Maps
variable {W W' : World}
theorem any_take {p : Tr → Bool} {l : List Tr} {i : Nat} {U : Tr} (h : l[i]? = some U) : (l.take (i + 1)).any p = ((l.take i).any p || p U) := by
 rw [List.take_add_one, h, List.any_append]; simp
theorem any_mem {p : Tr → Bool} {l : List Tr} {i : Nat} {U : Tr} (h : l[i]? = some U) (hp : p U = true) : l.any p = true := List.any_eq_true.2 ⟨U, List.mem_of_getElem? h, hp⟩
theorem duR_at {l : List Tr} {i : Nat} {V : Tr} (h : l[i]? = some V) : duR (l.take i) (l.drop i) = (((l.take i).any (smH V) || prR [] (prmT V)) || duR (l.take (i + 1)) (l.drop (i + 1))) := by
 have hi := (List.getElem?_eq_some_iff.1 h).1
 have e : l.drop i = V :: l.drop (i + 1) := by rw [List.drop_eq_getElem_cons hi]; congr 1; exact (List.getElem?_eq_some_iff.1 h).2
 rw [e, List.take_add_one, h]; rfl
theorem prR_at {p : List ByteArray} {k : Nat} {x : ByteArray} (h : p[k]? = some x) : prR (p.take k) (p.drop k) = ((!(x.toList == [95]) && inL (p.take k) x) || prR (p.take (k + 1)) (p.drop (k + 1))) := by
 have hi := (List.getElem?_eq_some_iff.1 h).1
 have e : p.drop k = x :: p.drop (k + 1) := by rw [List.drop_eq_getElem_cons hi]; congr 1; exact (List.getElem?_eq_some_iff.1 h).2
 rw [e, List.take_add_one, h]; rfl
/-- What the call's own tree is, at its place, and the row of all its parts. -/
structure Ck (N tb g o : Nat) (k : Int) (s : ByteArray) (n : Int) (b : List Int) (l Q : List Tr) (ba : Option Addr) (bc : Nat) (la : Option Addr) (lc oc : Nat) (w1 : World) : Prop where
 x0 : w1.cell? ⟨tb, 0, none⟩ = some (.int .i64 k)
 x1 : w1.cell? ⟨tb, 1, none⟩ = some (.string s)
 x2 : w1.cell? ⟨tb, 2, none⟩ = some (.int .i64 n)
 x3 : w1.cell? ⟨tb, 3, none⟩ = some (.slice ba b.length bc)
 x4 : w1.cell? ⟨tb, 4, none⟩ = some (.slice la l.length lc)
 rowl : RowAt w1.heap.size w1 la l
 rowq : RowAt w1.heap.size w1 (some ⟨g, o, none⟩) Q
theorem fun_form {k : Int} {s : ByteArray} {n : Int} {b : List Int} {l : List Tr} (hk : k = 17) (h : misV (.mk k s n b l) = false) : ∃ ps B, l = ps ++ [B] ∧ (∀ P ∈ ps, isK 3 P = true) ∧ kdT B = 16 := by
 subst hk
 obtain ⟨_, hp⟩ := mis_parts h
 rcases nil_or_last l with rfl | ⟨ys, A, rfl⟩
 · simp [partsV] at hp
 · simp [partsV] at hp
   refine ⟨ys, A, rfl, fun P hP => hp.1 P hP, ?_⟩
   obtain ⟨ak, az, an, ab, al⟩ := A
   show ak = 16
   simpa [isK] using hp.2
theorem wrap_small {x y : Int} (h : x = y) (h2 : -9000000000000000000 ≤ y ∧ y ≤ 9000000000000000000) : IntKind.i64.wrap x = y := by
 subst h
 rw [IntKind.wrap_i64]; omega
theorem leaf3 {P : Tr} (h : misV P = false) (h3 : isK 3 P = true) : P.l = [] := by
 obtain ⟨k, s, n, b, l⟩ := P
 have hk : k = 3 := by simpa [isK] using h3
 subst hk
 obtain ⟨hb, _⟩ := mis_parts h
 have : zL 3 = true := rfl
 simp only [bareV, this, Bool.and_eq_true, Bool.not_true, Bool.false_or, beq_iff_eq, List.length_eq_zero_iff] at hb
 exact hb.2
theorem Rl.put2 {L b : List ByteArray} (h : Rl L b) (s : ByteArray) : Rl (putL L s) (b ++ [s]) := by
 intro x
 have hx := h x
 have hs := h s
 rw [inL_app]
 unfold putL newN
 by_cases e : s = x
 ·
  subst e
  cases q : (s.toList == [95]) with
  | true => rw [q] at hs; rw [if_neg (by simp)]; rw [hs]; rfl
  | false =>
   rw [q] at hs
   split
   · rw [inL_app]; simp
   · rename_i hno
     cases hL : inL L s with
     | true => simp
     | false => rw [hL] at hno; simp at hno
 · split
   · rw [inL_app, hx]; simp [e]
   · rw [hx]; simp [e]
theorem puts_rl0 (ps : List Tr) : ∀ {L b : List ByteArray}, Rl L b → (∀ P ∈ ps, isK 3 P = true ∧ P.l = []) → Rl (putsT L ps) (b ++ ps.map nmT) := by
 induction ps with
 | nil => intro L b h _; simpa [putsT] using h
 | cons P ps ih =>
  intro L b h hp
  obtain ⟨h3, hl⟩ := hp P (by simp)
  obtain ⟨k, s, n, c, l⟩ := P
  have hk : k = 3 := by simpa [isK] using h3
  replace hl : l = [] := hl
  subst hk hl
  have e : putT L (.mk 3 s n c []) = putL L s := by
   unfold putT
   rw [preL_cons, preL_nil]
   rfl
  have h2 := ih (h.put2 s) (fun P hP => hp P (by simp [hP]))
  show Rl (putsT (putT L (.mk 3 s n c [])) ps) _
  rw [e, List.map_cons, show b ++ nmT (.mk 3 s n c []) :: ps.map nmT = (b ++ [s]) ++ ps.map nmT by simp]
  exact h2
theorem puts_rl {ps : List Tr} (hp : ∀ P ∈ ps, isK 3 P = true ∧ P.l = []) : Rl (putsT [] ps) (ps.map nmT) := by
 have := puts_rl0 ps (L := []) (b := []) (fun s => by simp [inL]) hp
 simpa using this
set_option maxRecDepth 100000 in
set_option maxHeartbeats 12800000 in
theorem rcheck_c (W : World) (T : Tr) (v : Value) (hR : RepG (fun z => z < W.heap.size) W T v) (hs : Szs [T]) : Calls Tryz.prog 12 #[v] W fun e w' => e = .returned (.int .i64 (refV T)) ∧ Gr (fun _ => False) W w' := by
 obtain ⟨k, s, n, b, l⟩ := T
 have ha := fun w (g : Gr (fun _ => False) W w) => allg_c (.mk k s n b l) w W.heap.size _ 4001 (hR.turn (A' := fun k => k < W.heap.size) (fun z hz hl => ⟨hz, g.block z hl (fun e => e)⟩)) g.size (by decide) (by decide)
 have hl0 : l.length + 1 ≤ (preL [Tr.mk k s n b l]).length := l_le (.mk k s n b l)
 have hsub : Hid (∀ U ∈ preL [Tr.mk k s n b l], Szs [U] ∧ (preL [U]).length ≤ (preL [Tr.mk k s n b l]).length ∧ ∀ V ∈ preL [U], V ∈ preL [Tr.mk k s n b l]) := fun U hU => ⟨hs.sub hU, pre_le hU, fun V hV => pre_in hU hV⟩
 have hlsub : Hid (∀ (i : Nat) U, l[i]? = some U → U ∈ preL [Tr.mk k s n b l]) := fun i U hi => by
  rw [preL_cons, preL_nil, List.append_nil]
  exact List.mem_cons_of_mem _ (mem_pre (List.mem_of_getElem? hi) U (self_pre U))
 have hself : Hid (Tr.mk k s n b l ∈ preL [Tr.mk k s n b l]) := self_pre _
 have hsl : l.length ≤ 4611686018427387904 := (hs _ (self_pre _)).2
 have hRef : refV (.mk k s n b l) = if 4000 < (preL [Tr.mk k s n b l]).length then 170 else rf1 k (preL [Tr.mk k s n b l]) (rf2 (preL [Tr.mk k s n b l]) (rf3 [] l (rf4 l (rf5 (preL [Tr.mk k s n b l]) (rf6 l (rf7 l (preL [Tr.mk k s n b l]) (rf8 l))))))) := rfl
 rw [hRef]
 clear hRef hs
 generalize hQ : preL [Tr.mk k s n b l] = Q at *
 have hprog : Hid (k = 18 → (∀ U ∈ Q, misV U = false) → ∀ (i : Nat) V, l[i]? = some V → kdT V = 17) := fun hk h i V hV => by
  subst hk
  exact prog_kid (h _ hself.out) V (List.mem_of_getElem? hV)
 replace hQ := Lib.hid hQ
 obtain ⟨ba, bc, la, lc, rfl, hrow⟩ := rep_row hR
 have gA := Gr.alloc W (.cells #[.int .i64 k, .string s, .int .i64 n, .slice ba b.length bc, .slice la l.length lc] 25) (fun _ => False)
 obtain ⟨⟨m0, m1, m2, m3, m4⟩, _⟩ := five_cells (heap_alloc_new W (.cells #[.int .i64 k, .string s, .int .i64 n, .slice ba b.length bc, .slice la l.length lc] 25))
 obtain ⟨tb, htb⟩ : ∃ tb, W.heap.size = tb := ⟨_, rfl⟩
 rw [htb] at m0 m1 m2 m3 m4
 replace ha := Lib.hid ha
 replace hrow := Lib.hid hrow
 have hgA := Lib.hid gA
 clear hR gA
 by_cases hmany : 4000 < Q.length
 ·
  rw [if_pos hmany]
  have hlen : (Q.take 4001).length = 4001 := by rw [List.length_take]; omega
  clear hsub hlsub hself hprog hQ
  go_enter Tryz.func12, Tryz.ntmps12
  go_wp2_with fail
  replace htb := Lib.hid htb
  generalize W.alloc (.cells #[.int .i64 k, .string s, .int .i64 n, .slice ba b.length bc, .slice la l.length lc] 25) = W1 at hgA m0 m1 m2 m3 m4 ⊢
  refine (ha.out W1 hgA.out).mono ?_
  rintro e w1 ⟨v', us, rfl, hrow1, hreps, g1⟩
  obtain ⟨oa, oc, rfl⟩ := ownsRow_sv hrow1
  rw [hlen] at hrow1 ⊢
  clear hrow1 hreps
  go_wp2_with fail
  go_ret
  exact ⟨rfl, hgA.out.trans g1⟩
 rw [if_neg hmany]
 have hlen : Q.length ≤ 4000 := by omega
 have hll : l.length ≤ 4000 := by omega
 have htk : Q.take 4001 = Q := List.take_of_length_le (by omega)
 rw [htk] at ha
 have hlenI : (Q.length : Int) ≤ 4000 := by omega
 have hllI : (l.length : Int) ≤ 4000 := by omega
 have hQp : 0 < Q.length := by omega
 obtain ⟨R8, h8⟩ : ∃ x, x = rf8 l := ⟨_, rfl⟩
 obtain ⟨R7, h7⟩ : ∃ x, x = rf7 l Q R8 := ⟨_, rfl⟩
 obtain ⟨R6, h6⟩ : ∃ x, x = rf6 l R7 := ⟨_, rfl⟩
 obtain ⟨R5, h5⟩ : ∃ x, x = rf5 Q R6 := ⟨_, rfl⟩
 obtain ⟨R4, h4⟩ : ∃ x, x = rf4 l R5 := ⟨_, rfl⟩
 obtain ⟨R3, h3⟩ : ∃ x, x = rf3 [] l R4 := ⟨_, rfl⟩
 obtain ⟨R2, h2⟩ : ∃ x, x = rf2 Q R3 := ⟨_, rfl⟩
 obtain ⟨R1, h1⟩ : ∃ x, x = rf1 k Q R2 := ⟨_, rfl⟩
 rw [← h8, ← h7, ← h6, ← h5, ← h4, ← h3, ← h2, ← h1]
 replace h1 := Lib.hid h1
 replace h2 := Lib.hid h2
 replace h3 := Lib.hid h3
 replace h4 := Lib.hid h4
 replace h5 := Lib.hid h5
 replace h6 := Lib.hid h6
 replace h7 := Lib.hid h7
 replace h8 := Lib.hid h8
 replace hlen := Lib.hid hlen
 replace hll := Lib.hid hll
 clear hmany htk hl0 hsl
 go_enter Tryz.func12, Tryz.ntmps12
 go_wp2_with fail
 replace htb := Lib.hid htb
 generalize W.alloc (.cells #[.int .i64 k, .string s, .int .i64 n, .slice ba b.length bc, .slice la l.length lc] 25) = W1 at hgA m0 m1 m2 m3 m4 ⊢
 refine (ha.out W1 hgA.out).mono ?_
 rintro e w1 ⟨v', us, rfl, hrow1, hreps, g1⟩
 obtain ⟨oa, oc, rfl⟩ := ownsRow_sv hrow1
 have hrq := rowat_own hrow1 (hreps.turn (A' := fun k => k < w1.heap.size) (fun z hz hl => ⟨hl, rfl⟩))
 obtain ⟨gq, oq, rfl, -⟩ := hrq 0 _ (List.getElem?_eq_getElem hQp)
 have hGW := Lib.hid (hgA.out.trans g1)
 have hrl : RowAt w1.heap.size w1 la l := fun i U hi => by
  obtain ⟨g', o', e, hg', hT⟩ := (hrow.out.g0 hGW.out) i U hi
  obtain ⟨v, hv1, hv2⟩ := hT
  exact ⟨g', o', e, Nat.lt_of_lt_of_le hg' hGW.out.size, v, hv1.turn (fun z hz hl => ⟨hl, rfl⟩), hv2⟩
 have hck : Hid (Ck 0 tb gq oq k s n b l Q ba bc la lc oc w1) := ⟨cell_gr m0 g1 (fun e => e), cell_gr m1 g1 (fun e => e), cell_gr m2 g1 (fun e => e), cell_gr m3 g1 (fun e => e), cell_gr m4 g1 (fun e => e), hrl, hrq⟩
 clear hrow1 hreps hrq hrl m0 m1 m2 m3 m4 hrow ha hgA g1 hQp
 go_wp2_with fail
 go_loopw [4] (fun u wr => ∃ i : Nat, i ≤ Q.length ∧ u = .int .i64 (i : Int) ∧ Hid ((Q.take i).any (fun U => misV U || (k != 18)) = false) ∧ Gr (fun _ => False) w1 wr) (fun u _ => Q.length - (intOf u).toNat)
 case atStart => exact ⟨0, Nat.zero_le _, rfl, rfl, Gr.refl _ _⟩
 case round =>
  obtain ⟨i, hi, rfl, hno, hG⟩ := hrel
  by_cases hlt : i < Q.length
  ·
   skip
   have hd : decide ((i : Int) < (Q.length : Int)) = true := by simp; omega
   have hiI : (i : Int) < (Q.length : Int) := by omega
   have hTi : Q[i]? = some Q[i] := List.getElem?_eq_getElem hlt
   obtain ⟨g', o', e', hg', hTA⟩ := hck.out.rowq i _ hTi
   cases e'
   have hst := any_take (p := fun U => misV U || (k != 18)) hTi
   have hme := any_mem (p := fun U => misV U || (k != 18)) hTi
   have hUm := List.mem_of_getElem? hTi
   generalize Q[i] = U at hTA hst hme hUm
   obtain ⟨v', hRv, ⟨tk, tt, tn, a1, n1, c1, a2, n2, c2, rfl⟩, hcl⟩ := (hTA.g0 hG hg').val
   have k0 : wr.cell? ⟨gq, oq + i * 5, none⟩ = some (.int .i64 tk) := hcl 0 _ rfl
   have k1 := hcl 1 _ rfl
   have k2 := hcl 2 _ rfl
   have k3 := hcl 3 _ rfl
   have k4 := hcl 4 _ rfl
   have hgw := World.block_lt_of_cell? _ _ k0
   have hRw := hRv.turn (A' := fun z => z < wr.heap.size) (fun z hz hl => ⟨hl, rfl⟩)
   have hcall : Calls Tryz.prog 27 #[trv tk tt tn (.slice a1 n1 c1) (.slice a2 n2 c2)] wr fun e w' => e = .returned (.bool (!misV U)) ∧ Gr (fun _ => False) wr w' := rform_c wr U _ hRw (hsub.out U hUm).1
   have y0 := cell_gr hck.out.x0 hG (fun e => e)
   have htl := World.block_lt_of_cell? _ _ y0
   replace hcall := Lib.hid hcall
   have hb := Lib.hid hi
   replace hlt := Lib.hid hlt
   clear hTA hRv hcl hRw hUm
   have hR177 : Hid ((misV U || (k != 18)) = true → R1 = 177) := fun e => by
    rw [h1.out]; unfold rf1; rw [if_pos (hme e)]
   have hgo : Hid ((misV U || (k != 18)) = false → (Q.take (i + 1)).any (fun U => misV U || (k != 18)) = false) := fun e => by rw [hst, hno.out]; simpa using e
   clear hme hst hno
   cases hU : misV U with
   | true =>
    rw [hU] at hcall hR177
    have hr := Lib.hid (hR177.out (by simp))
    clear hR177 hgo
    go_wp2_with fail
    refine hcall.out.mono ?_
    rintro e w4 ⟨rfl, g4⟩
    go_wp2_with fail
    go_ret
    exact ⟨by rw [hr.out]; rfl, (hGW.out.trans hG).trans g4⟩
   | false =>
    rw [hU] at hcall hR177 hgo
    cases q18 : (k != 18) with
    | true =>
     rw [q18] at hR177
     have hr := Lib.hid (hR177.out rfl)
     clear hR177 hgo
     go_wp2_with fail
     refine hcall.out.mono ?_
     rintro e w4 ⟨rfl, g4⟩
     have y0 := cell_gr y0 g4 (fun e => e)
     have htl := World.block_lt_of_cell? _ _ y0
     go_wp2_with fail
     go_ret
     exact ⟨by rw [hr.out]; rfl, (hGW.out.trans hG).trans g4⟩
    | false =>
     rw [q18] at hgo
     have hn2 := Lib.hid (hgo.out rfl)
     clear hR177 hgo
     go_wp2_with fail
     refine hcall.out.mono ?_
     rintro e w4 ⟨rfl, g4⟩
     have y0 := cell_gr y0 g4 (fun e => e)
     have htl := World.block_lt_of_cell? _ _ y0
     go_wp2_with fail
     have hlt' := hlt.out
     exact ⟨⟨i + 1, by omega, by go_num, hn2, hG.trans g4⟩, by simp [intOf]; omega⟩
  ·
   have hd : decide ((i : Int) < (Q.length : Int)) = false := by simp; omega
   have hie : i = Q.length := by omega
   have hnone : Hid (Q.any (fun U => misV U || (k != 18)) = false) := by
    have := hno.out
    rw [hie, List.take_length] at this
    exact this
   clear hie hno hd
   have hm : Hid (∀ U ∈ Q, misV U = false) := fun U hU => by
    have := List.any_eq_false.1 hnone.out U hU
    simp at this
    exact this.1
   have hk18 : Hid (k = 18) := by
    have := List.any_eq_false.1 hnone.out _ hself.out
    simp at this
    exact this.2
   have hc : Hid (R1 = R2) := by
    show _ = _
    rw [h1.out]; unfold rf1; rw [if_neg (by rw [hnone.out]; decide)]
   have hkid := Lib.hid (hprog.out hk18.out hm.out)
   clear hnone h1 hprog hk18
   go_wp2_with fail
   go_loopw [5] (fun u wr => ∃ i : Nat, i ≤ Q.length ∧ u = .int .i64 (i : Int) ∧ Hid ((Q.take i).any (overV) = false) ∧ Gr (fun _ => False) w1 wr) (fun u _ => Q.length - (intOf u).toNat)
   case atStart => exact ⟨0, Nat.zero_le _, rfl, rfl, hG⟩
   case round =>
    obtain ⟨i, hi, rfl, hno, hG⟩ := hrel
    by_cases hlt : i < Q.length
    ·
     skip
     have hd : decide ((i : Int) < (Q.length : Int)) = true := by simp; omega
     have hiI : (i : Int) < (Q.length : Int) := by omega
     have hTi : Q[i]? = some Q[i] := List.getElem?_eq_getElem hlt
     obtain ⟨g', o', e', hg', hTA⟩ := hck.out.rowq i _ hTi
     cases e'
     have hst := any_take (p := overV) hTi
     have hme := any_mem (p := overV) hTi
     have hUm := List.mem_of_getElem? hTi
     generalize Q[i] = U at hTA hst hme hUm
     obtain ⟨v', hRv, ⟨tk, tt, tn, a1, n1, c1, a2, n2, c2, rfl⟩, hcl⟩ := (hTA.g0 hG hg').val
     have k0 : wr.cell? ⟨gq, oq + i * 5, none⟩ = some (.int .i64 tk) := hcl 0 _ rfl
     have k1 := hcl 1 _ rfl
     have k2 := hcl 2 _ rfl
     have k3 := hcl 3 _ rfl
     have k4 := hcl 4 _ rfl
     have hgw := World.block_lt_of_cell? _ _ k0
     have hRw := hRv.turn (A' := fun z => z < wr.heap.size) (fun z hz hl => ⟨hl, rfl⟩)
     have hcall : Calls Tryz.prog 28 #[trv tk tt tn (.slice a1 n1 c1) (.slice a2 n2 c2)] wr fun e w' => e = .returned (.bool (overV U)) ∧ Gr (fun _ => False) wr w' := rmuch_c wr U _ hRw (by have := (hsub.out U hUm).2.1; have := hlen.out; omega)
     replace hcall := Lib.hid hcall
     have hb := Lib.hid hi
     replace hlt := Lib.hid hlt
     clear hTA hRv hcl hRw hUm
     have hR170 : Hid (overV U = true → R2 = 170) := fun e => by
      rw [h2.out]; unfold rf2; rw [if_pos (hme e)]
     have hgo : Hid (overV U = false → (Q.take (i + 1)).any overV = false) := fun e => by rw [hst, hno.out, e]; rfl
     clear hme hst hno
     cases hU : overV U with
     | true =>
      rw [hU] at hcall
      have hr := Lib.hid (hR170.out hU)
      clear hR170 hgo
      go_wp2_with fail
      refine hcall.out.mono ?_
      rintro e w4 ⟨rfl, g4⟩
      go_wp2_with fail
      go_ret
      exact ⟨by rw [hc.out, hr.out]; rfl, (hGW.out.trans hG).trans g4⟩
     | false =>
      rw [hU] at hcall
      have hn2 := Lib.hid (hgo.out hU)
      clear hR170 hgo
      go_wp2_with fail
      refine hcall.out.mono ?_
      rintro e w4 ⟨rfl, g4⟩
      go_wp2_with fail
      have hlt' := hlt.out
      exact ⟨⟨i + 1, by omega, by go_num, hn2, hG.trans g4⟩, by simp [intOf]; omega⟩
    ·
     have hd : decide ((i : Int) < (Q.length : Int)) = false := by simp; omega
     have hie : i = Q.length := by omega
     have hnone : Hid (Q.any (overV) = false) := by
      have := hno.out
      rw [hie, List.take_length] at this
      exact this
     clear hie hno hd
     replace hc : Hid (R1 = R3) := by
      show _ = _
      rw [hc.out, h2.out]; unfold rf2; rw [if_neg (by rw [hnone.out]; decide)]
     clear hnone h2
     go_wp2_with fail
     go_loopw [6, 7, 8, 9] (fun u6 u7 u8 u9 wr => ∃ i : Nat, i ≤ l.length ∧ u6 = .int .i64 (i : Int) ∧ Hid (duR [] l = duR (l.take i) (l.drop i)) ∧ Gr (fun _ => False) w1 wr) (fun u6 _ _ _ _ => l.length - (intOf u6).toNat)
     case atStart => exact ⟨0, Nat.zero_le _, rfl, by show _ = _; rw [List.take_zero, List.drop_zero], hG⟩
     case round =>
      obtain ⟨i, hi, rfl, hno, hG⟩ := hrel
      have y4 := cell_gr hck.out.x4 hG (fun e => e)
      have htl := World.block_lt_of_cell? _ _ y4
      by_cases hlt : i < l.length
      ·
       have hd : decide ((i : Int) < (l.length : Int)) = true := by simp; omega
       have hiI : (i : Int) < (l.length : Int) := by omega
       have hiJ : (i : Int) ≤ 4000 := by omega
       have hTi : l[i]? = some l[i] := List.getElem?_eq_getElem hlt
       obtain ⟨g0, o0, rfl, hg', hTA⟩ := hck.out.rowl i _ hTi
       have hdu := duR_at hTi
       have hUm := hlsub.out i _ hTi
       generalize l[i] = V at hTA hdu hUm
       obtain ⟨vk, vs, vn, vb, vl⟩ := V
       obtain ⟨ba', bc', la', lc', ⟨z0, z1, z2, z3, z4⟩, hrowV, hgl'⟩ := (hTA.g0 hG hg').parts
       have hvl : vl.length ≤ 4000 := by have h9 := l_le (.mk vk vs vn vb vl); have := (hsub.out _ hUm).2.1; have := hlen.out; dsimp only at h9; omega
       have hvlI : (vl.length : Int) ≤ 4000 := by omega
       have hb := Lib.hid hi
       replace hlt := Lib.hid hlt
       have hcall := Lib.hid (rparams_c w1.heap.size wr vk vs vn _ ⟨ba', vb.length, bc', rfl⟩ la' lc' vl hrowV hG.size (by omega))
       have hR171 : Hid (duR [] l = true → R3 = 171) := fun e => by
        rw [h3.out]; unfold rf3; rw [if_pos e]
       have hdu2 : Hid (duR [] l = ((l.take i).any (smH (.mk vk vs vn vb vl)) || prR [] (prmT (.mk vk vs vn vb vl)) || duR (l.take (i + 1)) (l.drop (i + 1)))) := hno.out.trans hdu
       have hpl : (vl.dropLast.map nmT).length ≤ 4000 := by simp; omega
       have hpm : prmT (.mk vk vs vn vb vl) = vl.dropLast.map nmT := rfl
       rw [hpm] at hdu2
       clear hdu hno hrowV hUm
       generalize vl.dropLast.map nmT = ps at hcall hdu2 hpl
       clear hpm
       go_wp2_with fail
       refine hcall.out.mono ?_
       rintro e w2 ⟨v', rfl, hNs, g2⟩
       have hG2 := hG.trans g2
       have hpr0 := hNs.nr
       obtain ⟨pa, pc, rfl⟩ := hNs.sv
       replace hpr0 := Lib.hid hpr0
       replace hTA := Lib.hid (hTA.g0 hG2 hg')
       have hyy := Lib.hid (cell_gr y4 g2 (fun e => e))
       have hplI : (ps.length : Int) ≤ 4000 := by omega
       clear hNs hcall z0 z1 z2 z3 z4 y4 htl hgl'
       go_wp2_with fail
       go_loopw [8] (fun u8 wr => ∃ j : Nat, j ≤ i ∧ u8 = .int .i64 (j : Int) ∧ Hid ((l.take j).any (smH (.mk vk vs vn vb vl)) = false) ∧ Gr (fun _ => False) w2 wr) (fun u8 _ => i - (intOf u8).toNat)
       case atStart => exact ⟨0, Nat.zero_le _, rfl, rfl, Gr.refl _ _⟩
       case round =>
        obtain ⟨j, hj, rfl, hno, hH⟩ := hrel
        have hltW := hlt.out
        by_cases hjt : j < i
        ·
         have hd2 : decide ((j : Int) < (i : Int)) = true := by simp; omega
         have hjI : (j : Int) < (l.length : Int) := by omega
         have hTj : l[j]? = some l[j] := List.getElem?_eq_getElem (by omega)
         obtain ⟨g0', o0', e', hgj, hTB⟩ := hck.out.rowl j _ hTj
         cases e'
         have hst := any_take (p := smH (.mk vk vs vn vb vl)) hTj
         have hmem : l[j] ∈ l.take i := List.mem_of_getElem? (i := j) (by rw [List.getElem?_take_of_lt hjt]; exact hTj)
         have hUm := hlsub.out j _ hTj
         generalize l[j] = U at hTB hst hmem hUm
         obtain ⟨uk, us, un, ub, ul⟩ := U
         have hul : ul.length ≤ 4000 := by have h9 := l_le (.mk uk us un ub ul); have := (hsub.out _ hUm).2.1; have := hlen.out; dsimp only at h9; omega
         have gd := Gr.drew wr (fun _ => False)
         have hHd := hH.trans gd
         obtain ⟨bau, bcu, lau, lcu, ⟨ud0, ud1, ud2, ud3, ud4⟩, _, hglu⟩ := (hTB.g0 (hG2.trans hHd) hgj).parts
         obtain ⟨ba', bc', la', lc', ⟨vd0, vd1, vd2, vd3, vd4⟩, _, hglv⟩ := (hTA.out.g0 hHd hg').parts
         have yd4 := cell_gr hyy.out hHd (fun e => e)
         have hsm : smH (.mk vk vs vn vb vl) (.mk uk us un ub ul) = ((us.toList == vs.toList) && ((ul.length : Int) == (vl.length : Int))) := rfl
         have hbad : Hid (((us.toList == vs.toList) && ((ul.length : Int) == (vl.length : Int))) = true → R3 = 171) := fun e => hR171.out (by
          rw [hdu2.out, List.any_eq_true.2 ⟨_, hmem, hsm.trans e⟩]; rfl)
         have hgo : Hid (((us.toList == vs.toList) && ((ul.length : Int) == (vl.length : Int))) = false → (l.take (j + 1)).any (smH (.mk vk vs vn vb vl)) = false) := fun e => by rw [hst, hno.out, hsm, e]; rfl
         replace hjt := Lib.hid hjt
         replace hj := Lib.hid hj
         have hGr2 := Lib.hid hHd
         clear hTj hTB hst hmem hUm hsm hno hltW hul gd hHd
         cases e1 : (us.toList == vs.toList) with
         | false =>
          rw [e1] at hgo
          have hn2 := Lib.hid (hgo.out rfl)
          clear hgo hbad
          go_wp2_with fail
          have TS : Gr (fun _ => False) wr.drew wr.drew := Gr.refl _ _
          refine wp_region_L (L := 100) (T := fun w => Gr (fun _ => False) wr.drew w) (by kernel_rfl) ?_
          refine wpAnyN_at (i := 0) (v := ptr tb 4) (some 68) rfl rfl (by kernel_rfl) (by kernel_rfl) (by kernel_rfl) (by kernel_rfl) (fun _ _ _ h => h) (Or.inl ⟨by rfl, ?_⟩) TS ?_
          · intro w hSw
            go_simp
            try (intro h; exfalso; omega)
          try simp only [Act.put, sa1, sa2, sa3]
          refine wpAnyN_at (i := 1) (v := .slice (some ⟨g0, o0, none⟩) l.length lc) (some 69) rfl rfl (by kernel_rfl) (by kernel_rfl) (by kernel_rfl) (by kernel_rfl) (fun _ _ _ h => h) (Or.inl ⟨by rfl, ?_⟩) TS ?_
          · intro w hSw
            have q0 := cell_gr yd4 hSw (fun e => e)
            have qz := World.block_lt_of_cell? _ _ q0
            go_simp
            try (intro h; exfalso; omega)
          try simp only [Act.put, sa1, sa2, sa3]
          refine wpAnyN_at (i := 2) (v := .int .i64 (j : Int)) (some 70) rfl rfl (by kernel_rfl) (by kernel_rfl) (by kernel_rfl) (by kernel_rfl) (fun _ _ _ h => h) (Or.inl ⟨by rfl, ?_⟩) TS ?_
          · intro w hSw
            go_simp
            try (intro h; exfalso; omega)
          try simp only [Act.put, sa1, sa2, sa3]
          refine wpAnyN_at (i := 3) (v := ptr g0 (o0 + j * 5)) (some 71) rfl rfl (by kernel_rfl) (by kernel_rfl) (by kernel_rfl) (by kernel_rfl) (fun _ _ _ h => h) (Or.inl ⟨by rfl, ?_⟩) TS ?_
          · intro w hSw
            go_simp
            try (intro h; exfalso; omega)
          try simp only [Act.put, sa1, sa2, sa3]
          refine wpAnyN_at (i := 4) (v := ptr g0 (o0 + j * 5 + 1)) (some 72) rfl rfl (by kernel_rfl) (by kernel_rfl) (by kernel_rfl) (by kernel_rfl) (fun _ _ _ h => h) (Or.inl ⟨by rfl, ?_⟩) TS ?_
          · intro w hSw
            go_simp
            try (intro h; exfalso; omega)
          try simp only [Act.put, sa1, sa2, sa3]
          refine wpAnyN_at (i := 5) (v := .string us) (some 73) rfl rfl (by kernel_rfl) (by kernel_rfl) (by kernel_rfl) (by kernel_rfl) (fun _ _ _ h => h) (Or.inl ⟨by rfl, ?_⟩) TS ?_
          · intro w hSw
            have q0 := cell_gr ud1 hSw (fun e => e)
            have qz := World.block_lt_of_cell? _ _ q0
            go_simp
            try (intro h; exfalso; omega)
          try simp only [Act.put, sa1, sa2, sa3]
          refine wpAnyN_at (i := 6) (v := ptr tb 4) (some 74) rfl rfl (by kernel_rfl) (by kernel_rfl) (by kernel_rfl) (by kernel_rfl) (fun _ _ _ h => h) (Or.inl ⟨by rfl, ?_⟩) TS ?_
          · intro w hSw
            go_simp
            try (intro h; exfalso; omega)
          try simp only [Act.put, sa1, sa2, sa3]
          refine wpAnyN_at (i := 7) (v := .slice (some ⟨g0, o0, none⟩) l.length lc) (some 75) rfl rfl (by kernel_rfl) (by kernel_rfl) (by kernel_rfl) (by kernel_rfl) (fun _ _ _ h => h) (Or.inl ⟨by rfl, ?_⟩) TS ?_
          · intro w hSw
            have q0 := cell_gr yd4 hSw (fun e => e)
            have qz := World.block_lt_of_cell? _ _ q0
            go_simp
            try (intro h; exfalso; omega)
          try simp only [Act.put, sa1, sa2, sa3]
          refine wpAnyN_at (i := 8) (v := .int .i64 (i : Int)) (some 76) rfl rfl (by kernel_rfl) (by kernel_rfl) (by kernel_rfl) (by kernel_rfl) (fun _ _ _ h => h) (Or.inl ⟨by rfl, ?_⟩) TS ?_
          · intro w hSw
            go_simp
            try (intro h; exfalso; omega)
          try simp only [Act.put, sa1, sa2, sa3]
          refine wpAnyN_at (i := 9) (v := ptr g0 (o0 + i * 5)) (some 77) rfl rfl (by kernel_rfl) (by kernel_rfl) (by kernel_rfl) (by kernel_rfl) (fun _ _ _ h => h) (Or.inl ⟨by rfl, ?_⟩) TS ?_
          · intro w hSw
            go_simp
            try (intro h; exfalso; omega)
          try simp only [Act.put, sa1, sa2, sa3]
          refine wpAnyN_at (i := 10) (v := ptr g0 (o0 + i * 5 + 1)) (some 78) rfl rfl (by kernel_rfl) (by kernel_rfl) (by kernel_rfl) (by kernel_rfl) (fun _ _ _ h => h) (Or.inl ⟨by rfl, ?_⟩) TS ?_
          · intro w hSw
            go_simp
            try (intro h; exfalso; omega)
          try simp only [Act.put, sa1, sa2, sa3]
          refine wpAnyN_at (i := 11) (v := .string vs) (some 79) rfl rfl (by kernel_rfl) (by kernel_rfl) (by kernel_rfl) (by kernel_rfl) (fun _ _ _ h => h) (Or.inl ⟨by rfl, ?_⟩) TS ?_
          · intro w hSw
            have q0 := cell_gr vd1 hSw (fun e => e)
            have qz := World.block_lt_of_cell? _ _ q0
            go_simp
            try (intro h; exfalso; omega)
          try simp only [Act.put, sa1, sa2, sa3]
          refine wpAnyN_at (i := 12) (v := .bool false) (some 80) rfl rfl (by kernel_rfl) (by kernel_rfl) (by kernel_rfl) (by kernel_rfl) (fun _ _ _ h => h) (Or.inl ⟨by rfl, ?_⟩) TS ?_
          · intro w hSw
            go_simp
            try (intro h; exfalso; omega)
          try simp only [Act.put, sa1, sa2, sa3]
          refine wpAnyN_at (i := 13) (v := .bool false) (some 81) rfl rfl (by kernel_rfl) (by kernel_rfl) (by kernel_rfl) (by kernel_rfl) (fun _ _ _ h => h) (Or.inl ⟨by rfl, ?_⟩) TS ?_
          · intro w hSw
            go_simp
            try (intro h; exfalso; omega)
          try simp only [Act.put, sa1, sa2, sa3]
          refine wpAnyN_at (i := 14) (v := undef) (some 82) rfl rfl (by kernel_rfl) (by kernel_rfl) (by kernel_rfl) (by kernel_rfl) (fun _ _ _ h => h) (Or.inr ⟨by rfl, rfl⟩) TS ?_
          try simp only [Act.put, sa1, sa2, sa3]
          refine wpAnyN_at (i := 15) (v := undef) (some 83) rfl rfl (by kernel_rfl) (by kernel_rfl) (by kernel_rfl) (by kernel_rfl) (fun _ _ _ h => h) (Or.inr ⟨by rfl, rfl⟩) TS ?_
          try simp only [Act.put, sa1, sa2, sa3]
          refine wpAnyN_at (i := 16) (v := undef) (some 84) rfl rfl (by kernel_rfl) (by kernel_rfl) (by kernel_rfl) (by kernel_rfl) (fun _ _ _ h => h) (Or.inr ⟨by rfl, rfl⟩) TS ?_
          try simp only [Act.put, sa1, sa2, sa3]
          refine wpAnyN_at (i := 17) (v := undef) (some 85) rfl rfl (by kernel_rfl) (by kernel_rfl) (by kernel_rfl) (by kernel_rfl) (fun _ _ _ h => h) (Or.inr ⟨by rfl, rfl⟩) TS ?_
          try simp only [Act.put, sa1, sa2, sa3]
          refine wpAnyN_at (i := 18) (v := undef) (some 86) rfl rfl (by kernel_rfl) (by kernel_rfl) (by kernel_rfl) (by kernel_rfl) (fun _ _ _ h => h) (Or.inr ⟨by rfl, rfl⟩) TS ?_
          try simp only [Act.put, sa1, sa2, sa3]
          refine wpAnyN_at (i := 19) (v := undef) (some 87) rfl rfl (by kernel_rfl) (by kernel_rfl) (by kernel_rfl) (by kernel_rfl) (fun _ _ _ h => h) (Or.inr ⟨by rfl, rfl⟩) TS ?_
          try simp only [Act.put, sa1, sa2, sa3]
          refine wpAnyN_at (i := 20) (v := undef) (some 88) rfl rfl (by kernel_rfl) (by kernel_rfl) (by kernel_rfl) (by kernel_rfl) (fun _ _ _ h => h) (Or.inr ⟨by rfl, rfl⟩) TS ?_
          try simp only [Act.put, sa1, sa2, sa3]
          refine wpAnyN_at (i := 21) (v := undef) (some 89) rfl rfl (by kernel_rfl) (by kernel_rfl) (by kernel_rfl) (by kernel_rfl) (fun _ _ _ h => h) (Or.inr ⟨by rfl, rfl⟩) TS ?_
          try simp only [Act.put, sa1, sa2, sa3]
          refine wpAnyN_at (i := 22) (v := undef) (some 90) rfl rfl (by kernel_rfl) (by kernel_rfl) (by kernel_rfl) (by kernel_rfl) (fun _ _ _ h => h) (Or.inr ⟨by rfl, rfl⟩) TS ?_
          try simp only [Act.put, sa1, sa2, sa3]
          refine wpAnyN_at (i := 23) (v := undef) (some 91) rfl rfl (by kernel_rfl) (by kernel_rfl) (by kernel_rfl) (by kernel_rfl) (fun _ _ _ h => h) (Or.inr ⟨by rfl, rfl⟩) TS ?_
          try simp only [Act.put, sa1, sa2, sa3]
          refine wpAnyN_at (i := 24) (v := undef) (some 92) rfl rfl (by kernel_rfl) (by kernel_rfl) (by kernel_rfl) (by kernel_rfl) (fun _ _ _ h => h) (Or.inr ⟨by rfl, rfl⟩) TS ?_
          try simp only [Act.put, sa1, sa2, sa3]
          refine wpAnyN_at (i := 25) (v := undef) (some 93) rfl rfl (by kernel_rfl) (by kernel_rfl) (by kernel_rfl) (by kernel_rfl) (fun _ _ _ h => h) (Or.inr ⟨by rfl, rfl⟩) TS ?_
          try simp only [Act.put, sa1, sa2, sa3]
          refine wpAnyN_at (i := 26) (v := undef) (some 94) rfl rfl (by kernel_rfl) (by kernel_rfl) (by kernel_rfl) (by kernel_rfl) (fun _ _ _ h => h) (Or.inr ⟨by rfl, rfl⟩) TS ?_
          try simp only [Act.put, sa1, sa2, sa3]
          refine wpAnyN_at (i := 27) (v := undef) (some 95) rfl rfl (by kernel_rfl) (by kernel_rfl) (by kernel_rfl) (by kernel_rfl) (fun _ _ _ h => h) (Or.inr ⟨by rfl, rfl⟩) TS ?_
          try simp only [Act.put, sa1, sa2, sa3]
          refine wpAnyN_at (i := 28) (v := undef) (some 96) rfl rfl (by kernel_rfl) (by kernel_rfl) (by kernel_rfl) (by kernel_rfl) (fun _ _ _ h => h) (Or.inr ⟨by rfl, rfl⟩) TS ?_
          try simp only [Act.put, sa1, sa2, sa3]
          refine wpAnyN_at (i := 29) (v := .bool false) (some 97) rfl rfl (by kernel_rfl) (by kernel_rfl) (by kernel_rfl) (by kernel_rfl) (fun _ _ _ h => h) (Or.inl ⟨by rfl, ?_⟩) TS ?_
          · intro w hSw
            go_simp
            try (intro h; exfalso; omega)
          try simp only [Act.put, sa1, sa2, sa3]
          refine wpAnyL_done (by kernel_rfl) ?_ _
          refine NoPanic.normal ?_
          go_wp2_with fail
          have hjt' := hjt.out
          exact ⟨⟨j + 1, by omega, by go_num, hn2, hGr2.out⟩, by simp [intOf]; omega⟩
         | true =>
          rw [e1] at hgo hbad
          cases e2 : ((ul.length : Int) == (vl.length : Int)) with
          | false =>
           rw [e2] at hgo
           have hn2 := Lib.hid (hgo.out rfl)
           clear hgo hbad
           go_wp2_with fail
           have TS : Gr (fun _ => False) wr.drew wr.drew := Gr.refl _ _
           refine wp_region_L (L := 100) (T := fun w => Gr (fun _ => False) wr.drew w) (by kernel_rfl) ?_
           refine wpAnyN_at (i := 0) (v := ptr tb 4) (some 68) rfl rfl (by kernel_rfl) (by kernel_rfl) (by kernel_rfl) (by kernel_rfl) (fun _ _ _ h => h) (Or.inl ⟨by rfl, ?_⟩) TS ?_
           · intro w hSw
             go_simp
             try (intro h; exfalso; omega)
           try simp only [Act.put, sa1, sa2, sa3]
           refine wpAnyN_at (i := 1) (v := .slice (some ⟨g0, o0, none⟩) l.length lc) (some 69) rfl rfl (by kernel_rfl) (by kernel_rfl) (by kernel_rfl) (by kernel_rfl) (fun _ _ _ h => h) (Or.inl ⟨by rfl, ?_⟩) TS ?_
           · intro w hSw
             have q0 := cell_gr yd4 hSw (fun e => e)
             have qz := World.block_lt_of_cell? _ _ q0
             go_simp
             try (intro h; exfalso; omega)
           try simp only [Act.put, sa1, sa2, sa3]
           refine wpAnyN_at (i := 2) (v := .int .i64 (j : Int)) (some 70) rfl rfl (by kernel_rfl) (by kernel_rfl) (by kernel_rfl) (by kernel_rfl) (fun _ _ _ h => h) (Or.inl ⟨by rfl, ?_⟩) TS ?_
           · intro w hSw
             go_simp
             try (intro h; exfalso; omega)
           try simp only [Act.put, sa1, sa2, sa3]
           refine wpAnyN_at (i := 3) (v := ptr g0 (o0 + j * 5)) (some 71) rfl rfl (by kernel_rfl) (by kernel_rfl) (by kernel_rfl) (by kernel_rfl) (fun _ _ _ h => h) (Or.inl ⟨by rfl, ?_⟩) TS ?_
           · intro w hSw
             go_simp
             try (intro h; exfalso; omega)
           try simp only [Act.put, sa1, sa2, sa3]
           refine wpAnyN_at (i := 4) (v := ptr g0 (o0 + j * 5 + 1)) (some 72) rfl rfl (by kernel_rfl) (by kernel_rfl) (by kernel_rfl) (by kernel_rfl) (fun _ _ _ h => h) (Or.inl ⟨by rfl, ?_⟩) TS ?_
           · intro w hSw
             go_simp
             try (intro h; exfalso; omega)
           try simp only [Act.put, sa1, sa2, sa3]
           refine wpAnyN_at (i := 5) (v := .string us) (some 73) rfl rfl (by kernel_rfl) (by kernel_rfl) (by kernel_rfl) (by kernel_rfl) (fun _ _ _ h => h) (Or.inl ⟨by rfl, ?_⟩) TS ?_
           · intro w hSw
             have q0 := cell_gr ud1 hSw (fun e => e)
             have qz := World.block_lt_of_cell? _ _ q0
             go_simp
             try (intro h; exfalso; omega)
           try simp only [Act.put, sa1, sa2, sa3]
           refine wpAnyN_at (i := 6) (v := ptr tb 4) (some 74) rfl rfl (by kernel_rfl) (by kernel_rfl) (by kernel_rfl) (by kernel_rfl) (fun _ _ _ h => h) (Or.inl ⟨by rfl, ?_⟩) TS ?_
           · intro w hSw
             go_simp
             try (intro h; exfalso; omega)
           try simp only [Act.put, sa1, sa2, sa3]
           refine wpAnyN_at (i := 7) (v := .slice (some ⟨g0, o0, none⟩) l.length lc) (some 75) rfl rfl (by kernel_rfl) (by kernel_rfl) (by kernel_rfl) (by kernel_rfl) (fun _ _ _ h => h) (Or.inl ⟨by rfl, ?_⟩) TS ?_
           · intro w hSw
             have q0 := cell_gr yd4 hSw (fun e => e)
             have qz := World.block_lt_of_cell? _ _ q0
             go_simp
             try (intro h; exfalso; omega)
           try simp only [Act.put, sa1, sa2, sa3]
           refine wpAnyN_at (i := 8) (v := .int .i64 (i : Int)) (some 76) rfl rfl (by kernel_rfl) (by kernel_rfl) (by kernel_rfl) (by kernel_rfl) (fun _ _ _ h => h) (Or.inl ⟨by rfl, ?_⟩) TS ?_
           · intro w hSw
             go_simp
             try (intro h; exfalso; omega)
           try simp only [Act.put, sa1, sa2, sa3]
           refine wpAnyN_at (i := 9) (v := ptr g0 (o0 + i * 5)) (some 77) rfl rfl (by kernel_rfl) (by kernel_rfl) (by kernel_rfl) (by kernel_rfl) (fun _ _ _ h => h) (Or.inl ⟨by rfl, ?_⟩) TS ?_
           · intro w hSw
             go_simp
             try (intro h; exfalso; omega)
           try simp only [Act.put, sa1, sa2, sa3]
           refine wpAnyN_at (i := 10) (v := ptr g0 (o0 + i * 5 + 1)) (some 78) rfl rfl (by kernel_rfl) (by kernel_rfl) (by kernel_rfl) (by kernel_rfl) (fun _ _ _ h => h) (Or.inl ⟨by rfl, ?_⟩) TS ?_
           · intro w hSw
             go_simp
             try (intro h; exfalso; omega)
           try simp only [Act.put, sa1, sa2, sa3]
           refine wpAnyN_at (i := 11) (v := .string vs) (some 79) rfl rfl (by kernel_rfl) (by kernel_rfl) (by kernel_rfl) (by kernel_rfl) (fun _ _ _ h => h) (Or.inl ⟨by rfl, ?_⟩) TS ?_
           · intro w hSw
             have q0 := cell_gr vd1 hSw (fun e => e)
             have qz := World.block_lt_of_cell? _ _ q0
             go_simp
             try (intro h; exfalso; omega)
           try simp only [Act.put, sa1, sa2, sa3]
           refine wpAnyN_at (i := 12) (v := .bool true) (some 80) rfl rfl (by kernel_rfl) (by kernel_rfl) (by kernel_rfl) (by kernel_rfl) (fun _ _ _ h => h) (Or.inl ⟨by rfl, ?_⟩) TS ?_
           · intro w hSw
             go_simp
             try (intro h; exfalso; omega)
           try simp only [Act.put, sa1, sa2, sa3]
           refine wpAnyN_at (i := 13) (v := .bool true) (some 81) rfl rfl (by kernel_rfl) (by kernel_rfl) (by kernel_rfl) (by kernel_rfl) (fun _ _ _ h => h) (Or.inl ⟨by rfl, ?_⟩) TS ?_
           · intro w hSw
             go_simp
             try (intro h; exfalso; omega)
           try simp only [Act.put, sa1, sa2, sa3]
           refine wpAnyN_at (i := 14) (v := ptr tb 4) (some 82) rfl rfl (by kernel_rfl) (by kernel_rfl) (by kernel_rfl) (by kernel_rfl) (fun _ _ _ h => h) (Or.inl ⟨by rfl, ?_⟩) TS ?_
           · intro w hSw
             go_simp
             try (intro h; exfalso; omega)
           try simp only [Act.put, sa1, sa2, sa3]
           refine wpAnyN_at (i := 15) (v := .slice (some ⟨g0, o0, none⟩) l.length lc) (some 83) rfl rfl (by kernel_rfl) (by kernel_rfl) (by kernel_rfl) (by kernel_rfl) (fun _ _ _ h => h) (Or.inl ⟨by rfl, ?_⟩) TS ?_
           · intro w hSw
             have q0 := cell_gr yd4 hSw (fun e => e)
             have qz := World.block_lt_of_cell? _ _ q0
             go_simp
             try (intro h; exfalso; omega)
           try simp only [Act.put, sa1, sa2, sa3]
           refine wpAnyN_at (i := 16) (v := .int .i64 (j : Int)) (some 84) rfl rfl (by kernel_rfl) (by kernel_rfl) (by kernel_rfl) (by kernel_rfl) (fun _ _ _ h => h) (Or.inl ⟨by rfl, ?_⟩) TS ?_
           · intro w hSw
             go_simp
             try (intro h; exfalso; omega)
           try simp only [Act.put, sa1, sa2, sa3]
           refine wpAnyN_at (i := 17) (v := ptr g0 (o0 + j * 5)) (some 85) rfl rfl (by kernel_rfl) (by kernel_rfl) (by kernel_rfl) (by kernel_rfl) (fun _ _ _ h => h) (Or.inl ⟨by rfl, ?_⟩) TS ?_
           · intro w hSw
             go_simp
             try (intro h; exfalso; omega)
           try simp only [Act.put, sa1, sa2, sa3]
           refine wpAnyN_at (i := 18) (v := ptr g0 (o0 + j * 5 + 4)) (some 86) rfl rfl (by kernel_rfl) (by kernel_rfl) (by kernel_rfl) (by kernel_rfl) (fun _ _ _ h => h) (Or.inl ⟨by rfl, ?_⟩) TS ?_
           · intro w hSw
             go_simp
             try (intro h; exfalso; omega)
           try simp only [Act.put, sa1, sa2, sa3]
           refine wpAnyN_at (i := 19) (v := .slice lau ul.length lcu) (some 87) rfl rfl (by kernel_rfl) (by kernel_rfl) (by kernel_rfl) (by kernel_rfl) (fun _ _ _ h => h) (Or.inl ⟨by rfl, ?_⟩) TS ?_
           · intro w hSw
             have q0 := cell_gr ud4 hSw (fun e => e)
             have qz := World.block_lt_of_cell? _ _ q0
             go_simp
             try (intro h; exfalso; omega)
           try simp only [Act.put, sa1, sa2, sa3]
           refine wpAnyN_at (i := 20) (v := .int .i64 (ul.length : Int)) (some 88) rfl rfl (by kernel_rfl) (by kernel_rfl) (by kernel_rfl) (by kernel_rfl) (fun _ _ _ h => h) (Or.inl ⟨by rfl, ?_⟩) TS ?_
           · intro w hSw
             go_simp
             try (intro h; exfalso; omega)
           try simp only [Act.put, sa1, sa2, sa3]
           refine wpAnyN_at (i := 21) (v := ptr tb 4) (some 89) rfl rfl (by kernel_rfl) (by kernel_rfl) (by kernel_rfl) (by kernel_rfl) (fun _ _ _ h => h) (Or.inl ⟨by rfl, ?_⟩) TS ?_
           · intro w hSw
             go_simp
             try (intro h; exfalso; omega)
           try simp only [Act.put, sa1, sa2, sa3]
           refine wpAnyN_at (i := 22) (v := .slice (some ⟨g0, o0, none⟩) l.length lc) (some 90) rfl rfl (by kernel_rfl) (by kernel_rfl) (by kernel_rfl) (by kernel_rfl) (fun _ _ _ h => h) (Or.inl ⟨by rfl, ?_⟩) TS ?_
           · intro w hSw
             have q0 := cell_gr yd4 hSw (fun e => e)
             have qz := World.block_lt_of_cell? _ _ q0
             go_simp
             try (intro h; exfalso; omega)
           try simp only [Act.put, sa1, sa2, sa3]
           refine wpAnyN_at (i := 23) (v := .int .i64 (i : Int)) (some 91) rfl rfl (by kernel_rfl) (by kernel_rfl) (by kernel_rfl) (by kernel_rfl) (fun _ _ _ h => h) (Or.inl ⟨by rfl, ?_⟩) TS ?_
           · intro w hSw
             go_simp
             try (intro h; exfalso; omega)
           try simp only [Act.put, sa1, sa2, sa3]
           refine wpAnyN_at (i := 24) (v := ptr g0 (o0 + i * 5)) (some 92) rfl rfl (by kernel_rfl) (by kernel_rfl) (by kernel_rfl) (by kernel_rfl) (fun _ _ _ h => h) (Or.inl ⟨by rfl, ?_⟩) TS ?_
           · intro w hSw
             go_simp
             try (intro h; exfalso; omega)
           try simp only [Act.put, sa1, sa2, sa3]
           refine wpAnyN_at (i := 25) (v := ptr g0 (o0 + i * 5 + 4)) (some 93) rfl rfl (by kernel_rfl) (by kernel_rfl) (by kernel_rfl) (by kernel_rfl) (fun _ _ _ h => h) (Or.inl ⟨by rfl, ?_⟩) TS ?_
           · intro w hSw
             go_simp
             try (intro h; exfalso; omega)
           try simp only [Act.put, sa1, sa2, sa3]
           refine wpAnyN_at (i := 26) (v := .slice la' vl.length lc') (some 94) rfl rfl (by kernel_rfl) (by kernel_rfl) (by kernel_rfl) (by kernel_rfl) (fun _ _ _ h => h) (Or.inl ⟨by rfl, ?_⟩) TS ?_
           · intro w hSw
             have q0 := cell_gr vd4 hSw (fun e => e)
             have qz := World.block_lt_of_cell? _ _ q0
             go_simp
             try (intro h; exfalso; omega)
           try simp only [Act.put, sa1, sa2, sa3]
           refine wpAnyN_at (i := 27) (v := .int .i64 (vl.length : Int)) (some 95) rfl rfl (by kernel_rfl) (by kernel_rfl) (by kernel_rfl) (by kernel_rfl) (fun _ _ _ h => h) (Or.inl ⟨by rfl, ?_⟩) TS ?_
           · intro w hSw
             go_simp
             try (intro h; exfalso; omega)
           try simp only [Act.put, sa1, sa2, sa3]
           refine wpAnyN_at (i := 28) (v := .bool false) (some 96) rfl rfl (by kernel_rfl) (by kernel_rfl) (by kernel_rfl) (by kernel_rfl) (fun _ _ _ h => h) (Or.inl ⟨by rfl, ?_⟩) TS ?_
           · intro w hSw
             go_simp
             try (intro h; exfalso; omega)
           try simp only [Act.put, sa1, sa2, sa3]
           refine wpAnyN_at (i := 29) (v := .bool false) (some 97) rfl rfl (by kernel_rfl) (by kernel_rfl) (by kernel_rfl) (by kernel_rfl) (fun _ _ _ h => h) (Or.inl ⟨by rfl, ?_⟩) TS ?_
           · intro w hSw
             go_simp
             try (intro h; exfalso; omega)
           try simp only [Act.put, sa1, sa2, sa3]
           refine wpAnyL_done (by kernel_rfl) ?_ _
           refine NoPanic.normal ?_
           go_wp2_with fail
           have hjt' := hjt.out
           exact ⟨⟨j + 1, by omega, by go_num, hn2, hGr2.out⟩, by simp [intOf]; omega⟩
          | true =>
           rw [e2] at hbad
           have hr := Lib.hid (hbad.out rfl)
           clear hgo hbad
           go_wp2_with fail
           have TS : Gr (fun _ => False) wr.drew wr.drew := Gr.refl _ _
           refine wp_region_L (L := 100) (T := fun w => Gr (fun _ => False) wr.drew w) (by kernel_rfl) ?_
           refine wpAnyN_at (i := 0) (v := ptr tb 4) (some 68) rfl rfl (by kernel_rfl) (by kernel_rfl) (by kernel_rfl) (by kernel_rfl) (fun _ _ _ h => h) (Or.inl ⟨by rfl, ?_⟩) TS ?_
           · intro w hSw
             go_simp
             try (intro h; exfalso; omega)
           try simp only [Act.put, sa1, sa2, sa3]
           refine wpAnyN_at (i := 1) (v := .slice (some ⟨g0, o0, none⟩) l.length lc) (some 69) rfl rfl (by kernel_rfl) (by kernel_rfl) (by kernel_rfl) (by kernel_rfl) (fun _ _ _ h => h) (Or.inl ⟨by rfl, ?_⟩) TS ?_
           · intro w hSw
             have q0 := cell_gr yd4 hSw (fun e => e)
             have qz := World.block_lt_of_cell? _ _ q0
             go_simp
             try (intro h; exfalso; omega)
           try simp only [Act.put, sa1, sa2, sa3]
           refine wpAnyN_at (i := 2) (v := .int .i64 (j : Int)) (some 70) rfl rfl (by kernel_rfl) (by kernel_rfl) (by kernel_rfl) (by kernel_rfl) (fun _ _ _ h => h) (Or.inl ⟨by rfl, ?_⟩) TS ?_
           · intro w hSw
             go_simp
             try (intro h; exfalso; omega)
           try simp only [Act.put, sa1, sa2, sa3]
           refine wpAnyN_at (i := 3) (v := ptr g0 (o0 + j * 5)) (some 71) rfl rfl (by kernel_rfl) (by kernel_rfl) (by kernel_rfl) (by kernel_rfl) (fun _ _ _ h => h) (Or.inl ⟨by rfl, ?_⟩) TS ?_
           · intro w hSw
             go_simp
             try (intro h; exfalso; omega)
           try simp only [Act.put, sa1, sa2, sa3]
           refine wpAnyN_at (i := 4) (v := ptr g0 (o0 + j * 5 + 1)) (some 72) rfl rfl (by kernel_rfl) (by kernel_rfl) (by kernel_rfl) (by kernel_rfl) (fun _ _ _ h => h) (Or.inl ⟨by rfl, ?_⟩) TS ?_
           · intro w hSw
             go_simp
             try (intro h; exfalso; omega)
           try simp only [Act.put, sa1, sa2, sa3]
           refine wpAnyN_at (i := 5) (v := .string us) (some 73) rfl rfl (by kernel_rfl) (by kernel_rfl) (by kernel_rfl) (by kernel_rfl) (fun _ _ _ h => h) (Or.inl ⟨by rfl, ?_⟩) TS ?_
           · intro w hSw
             have q0 := cell_gr ud1 hSw (fun e => e)
             have qz := World.block_lt_of_cell? _ _ q0
             go_simp
             try (intro h; exfalso; omega)
           try simp only [Act.put, sa1, sa2, sa3]
           refine wpAnyN_at (i := 6) (v := ptr tb 4) (some 74) rfl rfl (by kernel_rfl) (by kernel_rfl) (by kernel_rfl) (by kernel_rfl) (fun _ _ _ h => h) (Or.inl ⟨by rfl, ?_⟩) TS ?_
           · intro w hSw
             go_simp
             try (intro h; exfalso; omega)
           try simp only [Act.put, sa1, sa2, sa3]
           refine wpAnyN_at (i := 7) (v := .slice (some ⟨g0, o0, none⟩) l.length lc) (some 75) rfl rfl (by kernel_rfl) (by kernel_rfl) (by kernel_rfl) (by kernel_rfl) (fun _ _ _ h => h) (Or.inl ⟨by rfl, ?_⟩) TS ?_
           · intro w hSw
             have q0 := cell_gr yd4 hSw (fun e => e)
             have qz := World.block_lt_of_cell? _ _ q0
             go_simp
             try (intro h; exfalso; omega)
           try simp only [Act.put, sa1, sa2, sa3]
           refine wpAnyN_at (i := 8) (v := .int .i64 (i : Int)) (some 76) rfl rfl (by kernel_rfl) (by kernel_rfl) (by kernel_rfl) (by kernel_rfl) (fun _ _ _ h => h) (Or.inl ⟨by rfl, ?_⟩) TS ?_
           · intro w hSw
             go_simp
             try (intro h; exfalso; omega)
           try simp only [Act.put, sa1, sa2, sa3]
           refine wpAnyN_at (i := 9) (v := ptr g0 (o0 + i * 5)) (some 77) rfl rfl (by kernel_rfl) (by kernel_rfl) (by kernel_rfl) (by kernel_rfl) (fun _ _ _ h => h) (Or.inl ⟨by rfl, ?_⟩) TS ?_
           · intro w hSw
             go_simp
             try (intro h; exfalso; omega)
           try simp only [Act.put, sa1, sa2, sa3]
           refine wpAnyN_at (i := 10) (v := ptr g0 (o0 + i * 5 + 1)) (some 78) rfl rfl (by kernel_rfl) (by kernel_rfl) (by kernel_rfl) (by kernel_rfl) (fun _ _ _ h => h) (Or.inl ⟨by rfl, ?_⟩) TS ?_
           · intro w hSw
             go_simp
             try (intro h; exfalso; omega)
           try simp only [Act.put, sa1, sa2, sa3]
           refine wpAnyN_at (i := 11) (v := .string vs) (some 79) rfl rfl (by kernel_rfl) (by kernel_rfl) (by kernel_rfl) (by kernel_rfl) (fun _ _ _ h => h) (Or.inl ⟨by rfl, ?_⟩) TS ?_
           · intro w hSw
             have q0 := cell_gr vd1 hSw (fun e => e)
             have qz := World.block_lt_of_cell? _ _ q0
             go_simp
             try (intro h; exfalso; omega)
           try simp only [Act.put, sa1, sa2, sa3]
           refine wpAnyN_at (i := 12) (v := .bool true) (some 80) rfl rfl (by kernel_rfl) (by kernel_rfl) (by kernel_rfl) (by kernel_rfl) (fun _ _ _ h => h) (Or.inl ⟨by rfl, ?_⟩) TS ?_
           · intro w hSw
             go_simp
             try (intro h; exfalso; omega)
           try simp only [Act.put, sa1, sa2, sa3]
           refine wpAnyN_at (i := 13) (v := .bool true) (some 81) rfl rfl (by kernel_rfl) (by kernel_rfl) (by kernel_rfl) (by kernel_rfl) (fun _ _ _ h => h) (Or.inl ⟨by rfl, ?_⟩) TS ?_
           · intro w hSw
             go_simp
             try (intro h; exfalso; omega)
           try simp only [Act.put, sa1, sa2, sa3]
           refine wpAnyN_at (i := 14) (v := ptr tb 4) (some 82) rfl rfl (by kernel_rfl) (by kernel_rfl) (by kernel_rfl) (by kernel_rfl) (fun _ _ _ h => h) (Or.inl ⟨by rfl, ?_⟩) TS ?_
           · intro w hSw
             go_simp
             try (intro h; exfalso; omega)
           try simp only [Act.put, sa1, sa2, sa3]
           refine wpAnyN_at (i := 15) (v := .slice (some ⟨g0, o0, none⟩) l.length lc) (some 83) rfl rfl (by kernel_rfl) (by kernel_rfl) (by kernel_rfl) (by kernel_rfl) (fun _ _ _ h => h) (Or.inl ⟨by rfl, ?_⟩) TS ?_
           · intro w hSw
             have q0 := cell_gr yd4 hSw (fun e => e)
             have qz := World.block_lt_of_cell? _ _ q0
             go_simp
             try (intro h; exfalso; omega)
           try simp only [Act.put, sa1, sa2, sa3]
           refine wpAnyN_at (i := 16) (v := .int .i64 (j : Int)) (some 84) rfl rfl (by kernel_rfl) (by kernel_rfl) (by kernel_rfl) (by kernel_rfl) (fun _ _ _ h => h) (Or.inl ⟨by rfl, ?_⟩) TS ?_
           · intro w hSw
             go_simp
             try (intro h; exfalso; omega)
           try simp only [Act.put, sa1, sa2, sa3]
           refine wpAnyN_at (i := 17) (v := ptr g0 (o0 + j * 5)) (some 85) rfl rfl (by kernel_rfl) (by kernel_rfl) (by kernel_rfl) (by kernel_rfl) (fun _ _ _ h => h) (Or.inl ⟨by rfl, ?_⟩) TS ?_
           · intro w hSw
             go_simp
             try (intro h; exfalso; omega)
           try simp only [Act.put, sa1, sa2, sa3]
           refine wpAnyN_at (i := 18) (v := ptr g0 (o0 + j * 5 + 4)) (some 86) rfl rfl (by kernel_rfl) (by kernel_rfl) (by kernel_rfl) (by kernel_rfl) (fun _ _ _ h => h) (Or.inl ⟨by rfl, ?_⟩) TS ?_
           · intro w hSw
             go_simp
             try (intro h; exfalso; omega)
           try simp only [Act.put, sa1, sa2, sa3]
           refine wpAnyN_at (i := 19) (v := .slice lau ul.length lcu) (some 87) rfl rfl (by kernel_rfl) (by kernel_rfl) (by kernel_rfl) (by kernel_rfl) (fun _ _ _ h => h) (Or.inl ⟨by rfl, ?_⟩) TS ?_
           · intro w hSw
             have q0 := cell_gr ud4 hSw (fun e => e)
             have qz := World.block_lt_of_cell? _ _ q0
             go_simp
             try (intro h; exfalso; omega)
           try simp only [Act.put, sa1, sa2, sa3]
           refine wpAnyN_at (i := 20) (v := .int .i64 (ul.length : Int)) (some 88) rfl rfl (by kernel_rfl) (by kernel_rfl) (by kernel_rfl) (by kernel_rfl) (fun _ _ _ h => h) (Or.inl ⟨by rfl, ?_⟩) TS ?_
           · intro w hSw
             go_simp
             try (intro h; exfalso; omega)
           try simp only [Act.put, sa1, sa2, sa3]
           refine wpAnyN_at (i := 21) (v := ptr tb 4) (some 89) rfl rfl (by kernel_rfl) (by kernel_rfl) (by kernel_rfl) (by kernel_rfl) (fun _ _ _ h => h) (Or.inl ⟨by rfl, ?_⟩) TS ?_
           · intro w hSw
             go_simp
             try (intro h; exfalso; omega)
           try simp only [Act.put, sa1, sa2, sa3]
           refine wpAnyN_at (i := 22) (v := .slice (some ⟨g0, o0, none⟩) l.length lc) (some 90) rfl rfl (by kernel_rfl) (by kernel_rfl) (by kernel_rfl) (by kernel_rfl) (fun _ _ _ h => h) (Or.inl ⟨by rfl, ?_⟩) TS ?_
           · intro w hSw
             have q0 := cell_gr yd4 hSw (fun e => e)
             have qz := World.block_lt_of_cell? _ _ q0
             go_simp
             try (intro h; exfalso; omega)
           try simp only [Act.put, sa1, sa2, sa3]
           refine wpAnyN_at (i := 23) (v := .int .i64 (i : Int)) (some 91) rfl rfl (by kernel_rfl) (by kernel_rfl) (by kernel_rfl) (by kernel_rfl) (fun _ _ _ h => h) (Or.inl ⟨by rfl, ?_⟩) TS ?_
           · intro w hSw
             go_simp
             try (intro h; exfalso; omega)
           try simp only [Act.put, sa1, sa2, sa3]
           refine wpAnyN_at (i := 24) (v := ptr g0 (o0 + i * 5)) (some 92) rfl rfl (by kernel_rfl) (by kernel_rfl) (by kernel_rfl) (by kernel_rfl) (fun _ _ _ h => h) (Or.inl ⟨by rfl, ?_⟩) TS ?_
           · intro w hSw
             go_simp
             try (intro h; exfalso; omega)
           try simp only [Act.put, sa1, sa2, sa3]
           refine wpAnyN_at (i := 25) (v := ptr g0 (o0 + i * 5 + 4)) (some 93) rfl rfl (by kernel_rfl) (by kernel_rfl) (by kernel_rfl) (by kernel_rfl) (fun _ _ _ h => h) (Or.inl ⟨by rfl, ?_⟩) TS ?_
           · intro w hSw
             go_simp
             try (intro h; exfalso; omega)
           try simp only [Act.put, sa1, sa2, sa3]
           refine wpAnyN_at (i := 26) (v := .slice la' vl.length lc') (some 94) rfl rfl (by kernel_rfl) (by kernel_rfl) (by kernel_rfl) (by kernel_rfl) (fun _ _ _ h => h) (Or.inl ⟨by rfl, ?_⟩) TS ?_
           · intro w hSw
             have q0 := cell_gr vd4 hSw (fun e => e)
             have qz := World.block_lt_of_cell? _ _ q0
             go_simp
             try (intro h; exfalso; omega)
           try simp only [Act.put, sa1, sa2, sa3]
           refine wpAnyN_at (i := 27) (v := .int .i64 (vl.length : Int)) (some 95) rfl rfl (by kernel_rfl) (by kernel_rfl) (by kernel_rfl) (by kernel_rfl) (fun _ _ _ h => h) (Or.inl ⟨by rfl, ?_⟩) TS ?_
           · intro w hSw
             go_simp
             try (intro h; exfalso; omega)
           try simp only [Act.put, sa1, sa2, sa3]
           refine wpAnyN_at (i := 28) (v := .bool true) (some 96) rfl rfl (by kernel_rfl) (by kernel_rfl) (by kernel_rfl) (by kernel_rfl) (fun _ _ _ h => h) (Or.inl ⟨by rfl, ?_⟩) TS ?_
           · intro w hSw
             go_simp
             try (intro h; exfalso; omega)
           try simp only [Act.put, sa1, sa2, sa3]
           refine wpAnyN_at (i := 29) (v := .bool true) (some 97) rfl rfl (by kernel_rfl) (by kernel_rfl) (by kernel_rfl) (by kernel_rfl) (fun _ _ _ h => h) (Or.inl ⟨by rfl, ?_⟩) TS ?_
           · intro w hSw
             go_simp
             try (intro h; exfalso; omega)
           try simp only [Act.put, sa1, sa2, sa3]
           refine wpAnyL_done (by kernel_rfl) ?_ _
           refine NoPanic.normal ?_
           go_wp2_with fail
           go_ret
           exact ⟨by rw [hc.out, hr.out]; rfl, (hGW.out.trans hG2).trans hGr2.out⟩
        ·
         have hd2 : decide ((j : Int) < (i : Int)) = false := by simp; omega
         have hje : j = i := by omega
         have hno4 : Hid ((l.take i).any (smH (.mk vk vs vn vb vl)) = false) := by rw [← hje]; exact hno
         clear hje hno
         have hH4 := Lib.hid hH
         go_wp2_with fail
         go_loopw [9] (fun u9 wr => ∃ j : Nat, j ≤ ps.length ∧ u9 = .int .i64 (j : Int) ∧ Hid (prR [] ps = prR (ps.take j) (ps.drop j)) ∧ Gr (fun _ => False) w2 wr) (fun u9 _ => ps.length - (intOf u9).toNat)
         case atStart => exact ⟨0, Nat.zero_le _, rfl, by show _ = _; rw [List.take_zero, List.drop_zero], hH4.out⟩
         case round =>
          obtain ⟨j, hj, rfl, hno, hH⟩ := hrel
          by_cases hjt : j < ps.length
          ·
           have hd2 : decide ((j : Int) < (ps.length : Int)) = true := by simp; omega
           have hjI : (j : Int) < (ps.length : Int) := by omega
           have hTj : ps[j]? = some ps[j] := List.getElem?_eq_getElem hjt
           have hpa := prR_at hTj
           obtain ⟨pa', pc', e', hpcl, hpcell⟩ := hpr0.out
           cases e'
           obtain ⟨gp, rfl, hgp, hxc⟩ := hpcell j _ hTj
           generalize ps[j] = x at hpa hxc
           have gd := Gr.drew wr (fun _ => False)
           have hHd := hH.trans gd
           have xd := cell_gr hxc hHd (fun e => e)
           have hgpw := World.block_lt_of_cell? _ _ xd
           have hjc : (j : Int) ≤ (pc : Int) := by omega
           have hhas := Lib.hid (fun w (gw : Gr (fun _ => False) wr.drew w) => rhas_c w2.heap.size w _ (ps.take j) x ((hpr0.out.take j (by omega)).g0 (hHd.trans gw)) (Nat.le_trans hHd.size gw.size) (by rw [List.length_take]; omega))
           have hSd : Gr (fun _ => False) wr.drew wr.drew := Gr.refl _ _
           have hpa2 : Hid (prR [] ps = ((!(x.toList == [95]) && inL (ps.take j) x) || prR (ps.take (j + 1)) (ps.drop (j + 1)))) := hno.out.trans hpa
           have hbad : Hid (prR [] ps = true → R3 = 171) := fun e => hR171.out (by rw [hdu2.out, e]; simp)
           replace hjt := Lib.hid hjt
           have hj' := Lib.hid hj
           have hGr3 := Lib.hid hHd
           clear hTj hpa hpcell hxc hno gd hHd hpcl
           cases q9 : (x.toList == [95]) with
           | true =>
            have q10 : (x.toList != [95]) = false := by simpa using q9
            rw [q9] at hpa2
            have hn2 : Hid (prR [] ps = prR (ps.take (j + 1)) (ps.drop (j + 1))) := hpa2.out
            clear hpa2 hbad hhas hSd
            go_wp2_with fail
            have TS : Gr (fun _ => False) wr.drew wr.drew := Gr.refl _ _
            refine wp_region_L (L := 100) (T := fun w => Gr (fun _ => False) wr.drew w) (by kernel_rfl) ?_
            refine wpAnyN_at (i := 0) (v := .slice (some ⟨gp, 0, none⟩) ps.length pc) (some 104) rfl rfl (by kernel_rfl) (by kernel_rfl) (by kernel_rfl) (by kernel_rfl) (fun _ _ _ h => h) (Or.inl ⟨by rfl, ?_⟩) TS ?_
            · intro w hSw
              go_simp
              try (intro h; exfalso; omega)
            try simp only [Act.put, sa1, sa2, sa3]
            refine wpAnyN_at (i := 1) (v := .int .i64 (j : Int)) (some 105) rfl rfl (by kernel_rfl) (by kernel_rfl) (by kernel_rfl) (by kernel_rfl) (fun _ _ _ h => h) (Or.inl ⟨by rfl, ?_⟩) TS ?_
            · intro w hSw
              go_simp
              try (intro h; exfalso; omega)
            try simp only [Act.put, sa1, sa2, sa3]
            refine wpAnyN_at (i := 2) (v := ptr gp j) (some 106) rfl rfl (by kernel_rfl) (by kernel_rfl) (by kernel_rfl) (by kernel_rfl) (fun _ _ _ h => h) (Or.inl ⟨by rfl, ?_⟩) TS ?_
            · intro w hSw
              go_simp
              try (intro h; exfalso; omega)
            try simp only [Act.put, sa1, sa2, sa3]
            refine wpAnyN_at (i := 3) (v := .string x) (some 107) rfl rfl (by kernel_rfl) (by kernel_rfl) (by kernel_rfl) (by kernel_rfl) (fun _ _ _ h => h) (Or.inl ⟨by rfl, ?_⟩) TS ?_
            · intro w hSw
              have q0 := cell_gr xd hSw (fun e => e)
              have qz := World.block_lt_of_cell? _ _ q0
              go_simp
              try (intro h; exfalso; omega)
            try simp only [Act.put, sa1, sa2, sa3]
            refine wpAnyN_at (i := 4) (v := .bool false) (some 108) rfl rfl (by kernel_rfl) (by kernel_rfl) (by kernel_rfl) (by kernel_rfl) (fun _ _ _ h => h) (Or.inl ⟨by rfl, ?_⟩) TS ?_
            · intro w hSw
              go_simp
              try (intro h; exfalso; omega)
            try simp only [Act.put, sa1, sa2, sa3]
            refine wpAnyN_at (i := 5) (v := .bool false) (some 109) rfl rfl (by kernel_rfl) (by kernel_rfl) (by kernel_rfl) (by kernel_rfl) (fun _ _ _ h => h) (Or.inl ⟨by rfl, ?_⟩) TS ?_
            · intro w hSw
              go_simp
              try (intro h; exfalso; omega)
            try simp only [Act.put, sa1, sa2, sa3]
            refine wpAnyN_at (i := 6) (v := undef) (some 110) rfl rfl (by kernel_rfl) (by kernel_rfl) (by kernel_rfl) (by kernel_rfl) (fun _ _ _ h => h) (Or.inr ⟨by rfl, rfl⟩) TS ?_
            try simp only [Act.put, sa1, sa2, sa3]
            refine wpAnyN_at (i := 7) (v := undef) (some 111) rfl rfl (by kernel_rfl) (by kernel_rfl) (by kernel_rfl) (by kernel_rfl) (fun _ _ _ h => h) (Or.inr ⟨by rfl, rfl⟩) TS ?_
            try simp only [Act.put, sa1, sa2, sa3]
            refine wpAnyN_at (i := 8) (v := undef) (some 112) rfl rfl (by kernel_rfl) (by kernel_rfl) (by kernel_rfl) (by kernel_rfl) (fun _ _ _ h => h) (Or.inr ⟨by rfl, rfl⟩) TS ?_
            try simp only [Act.put, sa1, sa2, sa3]
            refine wpAnyN_at (i := 9) (v := undef) (some 113) rfl rfl (by kernel_rfl) (by kernel_rfl) (by kernel_rfl) (by kernel_rfl) (fun _ _ _ h => h) (Or.inr ⟨by rfl, rfl⟩) TS ?_
            try simp only [Act.put, sa1, sa2, sa3]
            refine wpAnyN_at (i := 10) (v := undef) (some 114) rfl rfl (by kernel_rfl) (by kernel_rfl) (by kernel_rfl) (by kernel_rfl) (fun _ _ _ h => h) (Or.inr ⟨by rfl, rfl⟩) TS ?_
            try simp only [Act.put, sa1, sa2, sa3]
            refine wpAnyN_at (i := 11) (v := undef) (some 115) rfl rfl (by kernel_rfl) (by kernel_rfl) (by kernel_rfl) (by kernel_rfl) (fun _ _ _ h => h) (Or.inr ⟨by rfl, rfl⟩) TS ?_
            try simp only [Act.put, sa1, sa2, sa3]
            refine wpAnyN_at (i := 12) (v := undef) (some 116) rfl rfl (by kernel_rfl) (by kernel_rfl) (by kernel_rfl) (by kernel_rfl) (fun _ _ _ h => h) (Or.inr ⟨by rfl, rfl⟩) TS ?_
            try simp only [Act.put, sa1, sa2, sa3]
            refine wpAnyN_at (i := 13) (v := undef) (some 117) rfl rfl (by kernel_rfl) (by kernel_rfl) (by kernel_rfl) (by kernel_rfl) (fun _ _ _ h => h) (Or.inr ⟨by rfl, rfl⟩) TS ?_
            try simp only [Act.put, sa1, sa2, sa3]
            refine wpAnyN_at (i := 14) (v := .bool false) (some 118) rfl rfl (by kernel_rfl) (by kernel_rfl) (by kernel_rfl) (by kernel_rfl) (fun _ _ _ h => h) (Or.inl ⟨by rfl, ?_⟩) TS ?_
            · intro w hSw
              go_simp
              try (intro h; exfalso; omega)
            try simp only [Act.put, sa1, sa2, sa3]
            refine wpAnyL_done (by kernel_rfl) ?_ _
            refine NoPanic.normal ?_
            go_wp2_with fail
            have hjt' := hjt.out
            exact ⟨⟨j + 1, by omega, by go_num, hn2, hGr3.out⟩, by simp [intOf]; omega⟩
           | false =>
            have q10 : (x.toList != [95]) = true := by simpa using q9
            rw [q9] at hpa2
            cases qh : inL (ps.take j) x with
            | false =>
             rw [qh] at hpa2 hhas
             have hn2 : Hid (prR [] ps = prR (ps.take (j + 1)) (ps.drop (j + 1))) := hpa2.out
             clear hpa2 hbad
             go_wp2_with fail
             have TS : Gr (fun _ => False) wr.drew wr.drew := Gr.refl _ _
             refine wp_region_L (L := 100) (T := fun w => Gr (fun _ => False) wr.drew w) (by kernel_rfl) ?_
             refine wpAnyN_at (i := 0) (v := .slice (some ⟨gp, 0, none⟩) ps.length pc) (some 104) rfl rfl (by kernel_rfl) (by kernel_rfl) (by kernel_rfl) (by kernel_rfl) (fun _ _ _ h => h) (Or.inl ⟨by rfl, ?_⟩) TS ?_
             · intro w hSw
               go_simp
               try (intro h; exfalso; omega)
             try simp only [Act.put, sa1, sa2, sa3]
             refine wpAnyN_at (i := 1) (v := .int .i64 (j : Int)) (some 105) rfl rfl (by kernel_rfl) (by kernel_rfl) (by kernel_rfl) (by kernel_rfl) (fun _ _ _ h => h) (Or.inl ⟨by rfl, ?_⟩) TS ?_
             · intro w hSw
               go_simp
               try (intro h; exfalso; omega)
             try simp only [Act.put, sa1, sa2, sa3]
             refine wpAnyN_at (i := 2) (v := ptr gp j) (some 106) rfl rfl (by kernel_rfl) (by kernel_rfl) (by kernel_rfl) (by kernel_rfl) (fun _ _ _ h => h) (Or.inl ⟨by rfl, ?_⟩) TS ?_
             · intro w hSw
               go_simp
               try (intro h; exfalso; omega)
             try simp only [Act.put, sa1, sa2, sa3]
             refine wpAnyN_at (i := 3) (v := .string x) (some 107) rfl rfl (by kernel_rfl) (by kernel_rfl) (by kernel_rfl) (by kernel_rfl) (fun _ _ _ h => h) (Or.inl ⟨by rfl, ?_⟩) TS ?_
             · intro w hSw
               have q0 := cell_gr xd hSw (fun e => e)
               have qz := World.block_lt_of_cell? _ _ q0
               go_simp
               try (intro h; exfalso; omega)
             try simp only [Act.put, sa1, sa2, sa3]
             refine wpAnyN_at (i := 4) (v := .bool true) (some 108) rfl rfl (by kernel_rfl) (by kernel_rfl) (by kernel_rfl) (by kernel_rfl) (fun _ _ _ h => h) (Or.inl ⟨by rfl, ?_⟩) TS ?_
             · intro w hSw
               go_simp
               try (intro h; exfalso; omega)
             try simp only [Act.put, sa1, sa2, sa3]
             refine wpAnyN_at (i := 5) (v := .bool true) (some 109) rfl rfl (by kernel_rfl) (by kernel_rfl) (by kernel_rfl) (by kernel_rfl) (fun _ _ _ h => h) (Or.inl ⟨by rfl, ?_⟩) TS ?_
             · intro w hSw
               go_simp
               try (intro h; exfalso; omega)
             try simp only [Act.put, sa1, sa2, sa3]
             refine wpAnyN_at (i := 6) (v := .slice (some ⟨gp, 0, none⟩) ps.length pc) (some 110) rfl rfl (by kernel_rfl) (by kernel_rfl) (by kernel_rfl) (by kernel_rfl) (fun _ _ _ h => h) (Or.inl ⟨by rfl, ?_⟩) TS ?_
             · intro w hSw
               go_simp
               try (intro h; exfalso; omega)
             try simp only [Act.put, sa1, sa2, sa3]
             refine wpAnyN_at (i := 7) (v := .int .i64 (j : Int)) (some 111) rfl rfl (by kernel_rfl) (by kernel_rfl) (by kernel_rfl) (by kernel_rfl) (fun _ _ _ h => h) (Or.inl ⟨by rfl, ?_⟩) TS ?_
             · intro w hSw
               go_simp
               try (intro h; exfalso; omega)
             try simp only [Act.put, sa1, sa2, sa3]
             refine wpAnyN_at (i := 8) (v := .slice (some ⟨gp, 0, none⟩) j pc) (some 112) rfl rfl (by kernel_rfl) (by kernel_rfl) (by kernel_rfl) (by kernel_rfl) (fun _ _ _ h => h) (Or.inl ⟨by rfl, ?_⟩) TS ?_
             · intro w hSw
               go_simp
               try (intro h; exfalso; omega)
             try simp only [Act.put, sa1, sa2, sa3]
             refine wpAnyN_at (i := 9) (v := .slice (some ⟨gp, 0, none⟩) ps.length pc) (some 113) rfl rfl (by kernel_rfl) (by kernel_rfl) (by kernel_rfl) (by kernel_rfl) (fun _ _ _ h => h) (Or.inl ⟨by rfl, ?_⟩) TS ?_
             · intro w hSw
               go_simp
               try (intro h; exfalso; omega)
             try simp only [Act.put, sa1, sa2, sa3]
             refine wpAnyN_at (i := 10) (v := .int .i64 (j : Int)) (some 114) rfl rfl (by kernel_rfl) (by kernel_rfl) (by kernel_rfl) (by kernel_rfl) (fun _ _ _ h => h) (Or.inl ⟨by rfl, ?_⟩) TS ?_
             · intro w hSw
               go_simp
               try (intro h; exfalso; omega)
             try simp only [Act.put, sa1, sa2, sa3]
             refine wpAnyN_at (i := 11) (v := ptr gp j) (some 115) rfl rfl (by kernel_rfl) (by kernel_rfl) (by kernel_rfl) (by kernel_rfl) (fun _ _ _ h => h) (Or.inl ⟨by rfl, ?_⟩) TS ?_
             · intro w hSw
               go_simp
               try (intro h; exfalso; omega)
             try simp only [Act.put, sa1, sa2, sa3]
             refine wpAnyN_at (i := 12) (v := .string x) (some 116) rfl rfl (by kernel_rfl) (by kernel_rfl) (by kernel_rfl) (by kernel_rfl) (fun _ _ _ h => h) (Or.inl ⟨by rfl, ?_⟩) TS ?_
             · intro w hSw
               have q0 := cell_gr xd hSw (fun e => e)
               have qz := World.block_lt_of_cell? _ _ q0
               go_simp
               try (intro h; exfalso; omega)
             try simp only [Act.put, sa1, sa2, sa3]
             refine wpAnyL_one (i := 13) (by kernel_rfl) rfl (fun K hK => ?_)
             go_simp
             refine (hhas.out _ hSd).mono ?_
             rintro e w9 ⟨rfl, rfl⟩
             refine hK.out _ _ (fun _ => TS) ?_
             clear hK K
             try simp only [Act.put, sa1, sa2, sa3]
             refine wpAnyN_at (i := 14) (v := .bool false) (some 118) rfl rfl (by kernel_rfl) (by kernel_rfl) (by kernel_rfl) (by kernel_rfl) (fun _ _ _ h => h) (Or.inl ⟨by rfl, ?_⟩) TS ?_
             · intro w hSw
               go_simp
               try (intro h; exfalso; omega)
             try simp only [Act.put, sa1, sa2, sa3]
             refine wpAnyL_done (by kernel_rfl) ?_ _
             refine NoPanic.normal ?_
             go_wp2_with fail
             have hjt' := hjt.out
             exact ⟨⟨j + 1, by omega, by go_num, hn2, hGr3.out⟩, by simp [intOf]; omega⟩
            | true =>
             rw [qh] at hpa2 hhas
             have hr := Lib.hid (hbad.out (by rw [hpa2.out]; rfl))
             clear hpa2 hbad
             go_wp2_with fail
             have TS : Gr (fun _ => False) wr.drew wr.drew := Gr.refl _ _
             refine wp_region_L (L := 100) (T := fun w => Gr (fun _ => False) wr.drew w) (by kernel_rfl) ?_
             refine wpAnyN_at (i := 0) (v := .slice (some ⟨gp, 0, none⟩) ps.length pc) (some 104) rfl rfl (by kernel_rfl) (by kernel_rfl) (by kernel_rfl) (by kernel_rfl) (fun _ _ _ h => h) (Or.inl ⟨by rfl, ?_⟩) TS ?_
             · intro w hSw
               go_simp
               try (intro h; exfalso; omega)
             try simp only [Act.put, sa1, sa2, sa3]
             refine wpAnyN_at (i := 1) (v := .int .i64 (j : Int)) (some 105) rfl rfl (by kernel_rfl) (by kernel_rfl) (by kernel_rfl) (by kernel_rfl) (fun _ _ _ h => h) (Or.inl ⟨by rfl, ?_⟩) TS ?_
             · intro w hSw
               go_simp
               try (intro h; exfalso; omega)
             try simp only [Act.put, sa1, sa2, sa3]
             refine wpAnyN_at (i := 2) (v := ptr gp j) (some 106) rfl rfl (by kernel_rfl) (by kernel_rfl) (by kernel_rfl) (by kernel_rfl) (fun _ _ _ h => h) (Or.inl ⟨by rfl, ?_⟩) TS ?_
             · intro w hSw
               go_simp
               try (intro h; exfalso; omega)
             try simp only [Act.put, sa1, sa2, sa3]
             refine wpAnyN_at (i := 3) (v := .string x) (some 107) rfl rfl (by kernel_rfl) (by kernel_rfl) (by kernel_rfl) (by kernel_rfl) (fun _ _ _ h => h) (Or.inl ⟨by rfl, ?_⟩) TS ?_
             · intro w hSw
               have q0 := cell_gr xd hSw (fun e => e)
               have qz := World.block_lt_of_cell? _ _ q0
               go_simp
               try (intro h; exfalso; omega)
             try simp only [Act.put, sa1, sa2, sa3]
             refine wpAnyN_at (i := 4) (v := .bool true) (some 108) rfl rfl (by kernel_rfl) (by kernel_rfl) (by kernel_rfl) (by kernel_rfl) (fun _ _ _ h => h) (Or.inl ⟨by rfl, ?_⟩) TS ?_
             · intro w hSw
               go_simp
               try (intro h; exfalso; omega)
             try simp only [Act.put, sa1, sa2, sa3]
             refine wpAnyN_at (i := 5) (v := .bool true) (some 109) rfl rfl (by kernel_rfl) (by kernel_rfl) (by kernel_rfl) (by kernel_rfl) (fun _ _ _ h => h) (Or.inl ⟨by rfl, ?_⟩) TS ?_
             · intro w hSw
               go_simp
               try (intro h; exfalso; omega)
             try simp only [Act.put, sa1, sa2, sa3]
             refine wpAnyN_at (i := 6) (v := .slice (some ⟨gp, 0, none⟩) ps.length pc) (some 110) rfl rfl (by kernel_rfl) (by kernel_rfl) (by kernel_rfl) (by kernel_rfl) (fun _ _ _ h => h) (Or.inl ⟨by rfl, ?_⟩) TS ?_
             · intro w hSw
               go_simp
               try (intro h; exfalso; omega)
             try simp only [Act.put, sa1, sa2, sa3]
             refine wpAnyN_at (i := 7) (v := .int .i64 (j : Int)) (some 111) rfl rfl (by kernel_rfl) (by kernel_rfl) (by kernel_rfl) (by kernel_rfl) (fun _ _ _ h => h) (Or.inl ⟨by rfl, ?_⟩) TS ?_
             · intro w hSw
               go_simp
               try (intro h; exfalso; omega)
             try simp only [Act.put, sa1, sa2, sa3]
             refine wpAnyN_at (i := 8) (v := .slice (some ⟨gp, 0, none⟩) j pc) (some 112) rfl rfl (by kernel_rfl) (by kernel_rfl) (by kernel_rfl) (by kernel_rfl) (fun _ _ _ h => h) (Or.inl ⟨by rfl, ?_⟩) TS ?_
             · intro w hSw
               go_simp
               try (intro h; exfalso; omega)
             try simp only [Act.put, sa1, sa2, sa3]
             refine wpAnyN_at (i := 9) (v := .slice (some ⟨gp, 0, none⟩) ps.length pc) (some 113) rfl rfl (by kernel_rfl) (by kernel_rfl) (by kernel_rfl) (by kernel_rfl) (fun _ _ _ h => h) (Or.inl ⟨by rfl, ?_⟩) TS ?_
             · intro w hSw
               go_simp
               try (intro h; exfalso; omega)
             try simp only [Act.put, sa1, sa2, sa3]
             refine wpAnyN_at (i := 10) (v := .int .i64 (j : Int)) (some 114) rfl rfl (by kernel_rfl) (by kernel_rfl) (by kernel_rfl) (by kernel_rfl) (fun _ _ _ h => h) (Or.inl ⟨by rfl, ?_⟩) TS ?_
             · intro w hSw
               go_simp
               try (intro h; exfalso; omega)
             try simp only [Act.put, sa1, sa2, sa3]
             refine wpAnyN_at (i := 11) (v := ptr gp j) (some 115) rfl rfl (by kernel_rfl) (by kernel_rfl) (by kernel_rfl) (by kernel_rfl) (fun _ _ _ h => h) (Or.inl ⟨by rfl, ?_⟩) TS ?_
             · intro w hSw
               go_simp
               try (intro h; exfalso; omega)
             try simp only [Act.put, sa1, sa2, sa3]
             refine wpAnyN_at (i := 12) (v := .string x) (some 116) rfl rfl (by kernel_rfl) (by kernel_rfl) (by kernel_rfl) (by kernel_rfl) (fun _ _ _ h => h) (Or.inl ⟨by rfl, ?_⟩) TS ?_
             · intro w hSw
               have q0 := cell_gr xd hSw (fun e => e)
               have qz := World.block_lt_of_cell? _ _ q0
               go_simp
               try (intro h; exfalso; omega)
             try simp only [Act.put, sa1, sa2, sa3]
             refine wpAnyL_one (i := 13) (by kernel_rfl) rfl (fun K hK => ?_)
             go_simp
             refine (hhas.out _ hSd).mono ?_
             rintro e w9 ⟨rfl, rfl⟩
             refine hK.out _ _ (fun _ => TS) ?_
             clear hK K
             try simp only [Act.put, sa1, sa2, sa3]
             refine wpAnyN_at (i := 14) (v := .bool true) (some 118) rfl rfl (by kernel_rfl) (by kernel_rfl) (by kernel_rfl) (by kernel_rfl) (fun _ _ _ h => h) (Or.inl ⟨by rfl, ?_⟩) TS ?_
             · intro w hSw
               go_simp
               try (intro h; exfalso; omega)
             try simp only [Act.put, sa1, sa2, sa3]
             refine wpAnyL_done (by kernel_rfl) ?_ _
             refine NoPanic.normal ?_
             go_wp2_with fail
             go_ret
             exact ⟨by rw [hc.out, hr.out]; rfl, (hGW.out.trans hG2).trans hGr3.out⟩
          · have hd2 : decide ((j : Int) < (ps.length : Int)) = false := by simp; omega
            have hje : j = ps.length := by omega
            have hnx : Hid (duR [] l = duR (l.take (i + 1)) (l.drop (i + 1))) := by
             have h9 := hno.out
             rw [hje, List.drop_length] at h9
             have h10 : prR [] ps = false := h9
             show _ = _
             rw [hdu2.out, hno4.out, h10]; rfl
            clear hje hno
            have hGx := Lib.hid (hG2.trans hH)
            go_wp2_with fail
            have hlt' := hlt.out
            exact ⟨⟨i + 1, by omega, by go_num, hnx, hGx.out⟩, by simp [intOf]; omega⟩
      ·
       have hd : decide ((i : Int) < (l.length : Int)) = false := by simp; omega
       have hie : i = l.length := by omega
       have hnone : Hid (duR [] l = false) := by
        have := hno.out
        rw [hie, List.drop_length] at this
        exact this
       clear hie hno hd
       replace hc : Hid (R1 = R4) := by
        show _ = _
        rw [hc.out, h3.out]; unfold rf3; rw [if_neg (by rw [hnone.out]; decide)]
       clear hnone h3
       go_wp2_with fail
       go_loopw [10] (fun u10 wr => ∃ i : Nat, i ≤ l.length ∧ u10 = .int .i64 (i : Int) ∧ Hid ((l.take i).any (nbR) = false) ∧ Gr (fun _ => False) w1 wr) (fun u10 _ => l.length - (intOf u10).toNat)
       case atStart => exact ⟨0, Nat.zero_le _, rfl, rfl, hG⟩
       case round =>
        obtain ⟨i, hi, rfl, hno, hG⟩ := hrel
        have y4 := cell_gr hck.out.x4 hG (fun e => e)
        have htl := World.block_lt_of_cell? _ _ y4
        by_cases hlt : i < l.length
        ·
         have hd : decide ((i : Int) < (l.length : Int)) = true := by simp; omega
         have hiI : (i : Int) < (l.length : Int) := by omega
         have hTi : l[i]? = some l[i] := List.getElem?_eq_getElem hlt
         obtain ⟨g0, o0, rfl, hg', hTA⟩ := hck.out.rowl i _ hTi
         have hst := any_take (p := nbR) hTi
         have hme := any_mem (p := nbR) hTi
         have hUm := hlsub.out i _ hTi
         have hvk := hkid.out i _ hTi
         generalize l[i] = V at hTA hst hme hUm hvk
         obtain ⟨vk, vs, vn, vb, vl⟩ := V
         obtain ⟨ba', bc', la', lc', ⟨z0, z1, z2, z3, z4⟩, hrowV, hgl'⟩ := (hTA.g0 hG hg').parts
         have hvl : vl.length ≤ 4000 := by have h9 := l_le (.mk vk vs vn vb vl); have := (hsub.out _ hUm).2.1; have := hlen.out; dsimp only at h9; omega
         have hvlI : (vl.length : Int) ≤ 4000 := by omega
         have hb := Lib.hid hi
         replace hlt := Lib.hid hlt
         have hbi := Lib.hid (fun w => rbuiltin_c w vs ((vl.length : Int) - 1))
         have hR172 : Hid (decide (0 < (biV vs ((vl.length : Int) - 1) : Int)) = true → R4 = 172) := fun e => by
          rw [h4.out]; unfold rf4; rw [if_pos (hme e)]
         have hgo : Hid (decide (0 < (biV vs ((vl.length : Int) - 1) : Int)) = false → (l.take (i + 1)).any nbR = false) := fun e => by rw [hst, hno.out]; exact e
         generalize biV vs ((vl.length : Int) - 1) = bq at hbi hR172 hgo
         have hvw : IntKind.i64.wrap ((vl.length : Int) - 1) = (vl.length : Int) - 1 := wrap_small (by omega) ⟨by omega, by omega⟩
         have gd := Gr.drew wr (fun _ => False)
         have yd4 := cell_gr y4 gd (fun e => e)
         have vd1 := cell_gr z1 gd (fun e => e)
         have vd4 := cell_gr z4 gd (fun e => e)
         have hGd := Lib.hid (hG.trans gd)
         clear hme hst hno hTA hUm hrowV z0 z1 z2 z3 z4 gd hvk
         cases hq : decide (0 < (bq : Int)) with
         | true =>
          have hr := Lib.hid (hR172.out hq)
          clear hR172 hgo
          go_wp2_with fail
          have TS : Gr (fun _ => False) wr.drew wr.drew := Gr.refl _ _
          refine wp_region_L (L := 100) (T := fun w => Gr (fun _ => False) wr.drew w) (by kernel_rfl) ?_
          refine wpAnyN_at (i := 0) (v := ptr tb 4) (some 126) rfl rfl (by kernel_rfl) (by kernel_rfl) (by kernel_rfl) (by kernel_rfl) (fun _ _ _ h => h) (Or.inl ⟨by rfl, ?_⟩) TS ?_
          · intro w hSw
            go_simp
            try (intro h; exfalso; omega)
            try (simp only [decide_eq_true_eq, decide_eq_false_iff_not] at hq; omega)
          try simp only [Act.put, sa1, sa2, sa3]
          refine wpAnyN_at (i := 1) (v := .slice (some ⟨g0, o0, none⟩) l.length lc) (some 127) rfl rfl (by kernel_rfl) (by kernel_rfl) (by kernel_rfl) (by kernel_rfl) (fun _ _ _ h => h) (Or.inl ⟨by rfl, ?_⟩) TS ?_
          · intro w hSw
            have q0 := cell_gr yd4 hSw (fun e => e)
            have qz := World.block_lt_of_cell? _ _ q0
            go_simp
            try (intro h; exfalso; omega)
            try (simp only [decide_eq_true_eq, decide_eq_false_iff_not] at hq; omega)
          try simp only [Act.put, sa1, sa2, sa3]
          refine wpAnyN_at (i := 2) (v := .int .i64 (i : Int)) (some 128) rfl rfl (by kernel_rfl) (by kernel_rfl) (by kernel_rfl) (by kernel_rfl) (fun _ _ _ h => h) (Or.inl ⟨by rfl, ?_⟩) TS ?_
          · intro w hSw
            go_simp
            try (intro h; exfalso; omega)
            try (simp only [decide_eq_true_eq, decide_eq_false_iff_not] at hq; omega)
          try simp only [Act.put, sa1, sa2, sa3]
          refine wpAnyN_at (i := 3) (v := ptr g0 (o0 + i * 5)) (some 129) rfl rfl (by kernel_rfl) (by kernel_rfl) (by kernel_rfl) (by kernel_rfl) (fun _ _ _ h => h) (Or.inl ⟨by rfl, ?_⟩) TS ?_
          · intro w hSw
            go_simp
            try (intro h; exfalso; omega)
            try (simp only [decide_eq_true_eq, decide_eq_false_iff_not] at hq; omega)
          try simp only [Act.put, sa1, sa2, sa3]
          refine wpAnyN_at (i := 4) (v := ptr g0 (o0 + i * 5 + 1)) (some 130) rfl rfl (by kernel_rfl) (by kernel_rfl) (by kernel_rfl) (by kernel_rfl) (fun _ _ _ h => h) (Or.inl ⟨by rfl, ?_⟩) TS ?_
          · intro w hSw
            go_simp
            try (intro h; exfalso; omega)
            try (simp only [decide_eq_true_eq, decide_eq_false_iff_not] at hq; omega)
          try simp only [Act.put, sa1, sa2, sa3]
          refine wpAnyN_at (i := 5) (v := .string vs) (some 131) rfl rfl (by kernel_rfl) (by kernel_rfl) (by kernel_rfl) (by kernel_rfl) (fun _ _ _ h => h) (Or.inl ⟨by rfl, ?_⟩) TS ?_
          · intro w hSw
            have q0 := cell_gr vd1 hSw (fun e => e)
            have qz := World.block_lt_of_cell? _ _ q0
            go_simp
            try (intro h; exfalso; omega)
            try (simp only [decide_eq_true_eq, decide_eq_false_iff_not] at hq; omega)
          try simp only [Act.put, sa1, sa2, sa3]
          refine wpAnyN_at (i := 6) (v := ptr tb 4) (some 132) rfl rfl (by kernel_rfl) (by kernel_rfl) (by kernel_rfl) (by kernel_rfl) (fun _ _ _ h => h) (Or.inl ⟨by rfl, ?_⟩) TS ?_
          · intro w hSw
            go_simp
            try (intro h; exfalso; omega)
            try (simp only [decide_eq_true_eq, decide_eq_false_iff_not] at hq; omega)
          try simp only [Act.put, sa1, sa2, sa3]
          refine wpAnyN_at (i := 7) (v := .slice (some ⟨g0, o0, none⟩) l.length lc) (some 133) rfl rfl (by kernel_rfl) (by kernel_rfl) (by kernel_rfl) (by kernel_rfl) (fun _ _ _ h => h) (Or.inl ⟨by rfl, ?_⟩) TS ?_
          · intro w hSw
            have q0 := cell_gr yd4 hSw (fun e => e)
            have qz := World.block_lt_of_cell? _ _ q0
            go_simp
            try (intro h; exfalso; omega)
            try (simp only [decide_eq_true_eq, decide_eq_false_iff_not] at hq; omega)
          try simp only [Act.put, sa1, sa2, sa3]
          refine wpAnyN_at (i := 8) (v := .int .i64 (i : Int)) (some 134) rfl rfl (by kernel_rfl) (by kernel_rfl) (by kernel_rfl) (by kernel_rfl) (fun _ _ _ h => h) (Or.inl ⟨by rfl, ?_⟩) TS ?_
          · intro w hSw
            go_simp
            try (intro h; exfalso; omega)
            try (simp only [decide_eq_true_eq, decide_eq_false_iff_not] at hq; omega)
          try simp only [Act.put, sa1, sa2, sa3]
          refine wpAnyN_at (i := 9) (v := ptr g0 (o0 + i * 5)) (some 135) rfl rfl (by kernel_rfl) (by kernel_rfl) (by kernel_rfl) (by kernel_rfl) (fun _ _ _ h => h) (Or.inl ⟨by rfl, ?_⟩) TS ?_
          · intro w hSw
            go_simp
            try (intro h; exfalso; omega)
            try (simp only [decide_eq_true_eq, decide_eq_false_iff_not] at hq; omega)
          try simp only [Act.put, sa1, sa2, sa3]
          refine wpAnyN_at (i := 10) (v := ptr g0 (o0 + i * 5 + 4)) (some 136) rfl rfl (by kernel_rfl) (by kernel_rfl) (by kernel_rfl) (by kernel_rfl) (fun _ _ _ h => h) (Or.inl ⟨by rfl, ?_⟩) TS ?_
          · intro w hSw
            go_simp
            try (intro h; exfalso; omega)
            try (simp only [decide_eq_true_eq, decide_eq_false_iff_not] at hq; omega)
          try simp only [Act.put, sa1, sa2, sa3]
          refine wpAnyN_at (i := 11) (v := .slice la' vl.length lc') (some 137) rfl rfl (by kernel_rfl) (by kernel_rfl) (by kernel_rfl) (by kernel_rfl) (fun _ _ _ h => h) (Or.inl ⟨by rfl, ?_⟩) TS ?_
          · intro w hSw
            have q0 := cell_gr vd4 hSw (fun e => e)
            have qz := World.block_lt_of_cell? _ _ q0
            go_simp
            try (intro h; exfalso; omega)
            try (simp only [decide_eq_true_eq, decide_eq_false_iff_not] at hq; omega)
          try simp only [Act.put, sa1, sa2, sa3]
          refine wpAnyN_at (i := 12) (v := .int .i64 (vl.length : Int)) (some 138) rfl rfl (by kernel_rfl) (by kernel_rfl) (by kernel_rfl) (by kernel_rfl) (fun _ _ _ h => h) (Or.inl ⟨by rfl, ?_⟩) TS ?_
          · intro w hSw
            go_simp
            try (intro h; exfalso; omega)
            try (simp only [decide_eq_true_eq, decide_eq_false_iff_not] at hq; omega)
          try simp only [Act.put, sa1, sa2, sa3]
          refine wpAnyN_at (i := 13) (v := .int .i64 ((vl.length : Int) - 1)) (some 139) rfl rfl (by kernel_rfl) (by kernel_rfl) (by kernel_rfl) (by kernel_rfl) (fun _ _ _ h => h) (Or.inl ⟨by rfl, ?_⟩) TS ?_
          · intro w hSw
            go_simp
            try (intro h; exfalso; omega)
            try (simp only [decide_eq_true_eq, decide_eq_false_iff_not] at hq; omega)
          try simp only [Act.put, sa1, sa2, sa3]
          refine wpAnyL_one (i := 14) (by kernel_rfl) rfl (fun K hK => ?_)
          go_simp
          refine (hbi.out _).mono ?_
          rintro e w9 ⟨rfl, g9⟩
          have TS : Gr (fun _ => False) wr.drew w9 := TS.trans g9
          refine hK.out _ _ (fun _ => TS) ?_
          clear hK K
          try simp only [Act.put, sa1, sa2, sa3]
          refine wpAnyN_at (i := 15) (v := .bool true) (some 141) rfl rfl (by kernel_rfl) (by kernel_rfl) (by kernel_rfl) (by kernel_rfl) (fun _ _ _ h => h) (Or.inl ⟨by rfl, ?_⟩) TS ?_
          · intro w hSw
            go_simp
            try (intro h; exfalso; omega)
            try (simp only [decide_eq_true_eq, decide_eq_false_iff_not] at hq; omega)
          try simp only [Act.put, sa1, sa2, sa3]
          refine wpAnyL_done (by kernel_rfl) ?_ _
          refine NoPanic.normal ?_
          go_wp2_with fail
          go_ret
          exact ⟨by rw [hc.out, hr.out]; rfl, (hGW.out.trans hGd.out).trans TS⟩
         | false =>
          have hn2 := Lib.hid (hgo.out hq)
          clear hR172 hgo
          go_wp2_with fail
          have TS : Gr (fun _ => False) wr.drew wr.drew := Gr.refl _ _
          refine wp_region_L (L := 100) (T := fun w => Gr (fun _ => False) wr.drew w) (by kernel_rfl) ?_
          refine wpAnyN_at (i := 0) (v := ptr tb 4) (some 126) rfl rfl (by kernel_rfl) (by kernel_rfl) (by kernel_rfl) (by kernel_rfl) (fun _ _ _ h => h) (Or.inl ⟨by rfl, ?_⟩) TS ?_
          · intro w hSw
            go_simp
            try (intro h; exfalso; omega)
            try (simp only [decide_eq_true_eq, decide_eq_false_iff_not] at hq; omega)
          try simp only [Act.put, sa1, sa2, sa3]
          refine wpAnyN_at (i := 1) (v := .slice (some ⟨g0, o0, none⟩) l.length lc) (some 127) rfl rfl (by kernel_rfl) (by kernel_rfl) (by kernel_rfl) (by kernel_rfl) (fun _ _ _ h => h) (Or.inl ⟨by rfl, ?_⟩) TS ?_
          · intro w hSw
            have q0 := cell_gr yd4 hSw (fun e => e)
            have qz := World.block_lt_of_cell? _ _ q0
            go_simp
            try (intro h; exfalso; omega)
            try (simp only [decide_eq_true_eq, decide_eq_false_iff_not] at hq; omega)
          try simp only [Act.put, sa1, sa2, sa3]
          refine wpAnyN_at (i := 2) (v := .int .i64 (i : Int)) (some 128) rfl rfl (by kernel_rfl) (by kernel_rfl) (by kernel_rfl) (by kernel_rfl) (fun _ _ _ h => h) (Or.inl ⟨by rfl, ?_⟩) TS ?_
          · intro w hSw
            go_simp
            try (intro h; exfalso; omega)
            try (simp only [decide_eq_true_eq, decide_eq_false_iff_not] at hq; omega)
          try simp only [Act.put, sa1, sa2, sa3]
          refine wpAnyN_at (i := 3) (v := ptr g0 (o0 + i * 5)) (some 129) rfl rfl (by kernel_rfl) (by kernel_rfl) (by kernel_rfl) (by kernel_rfl) (fun _ _ _ h => h) (Or.inl ⟨by rfl, ?_⟩) TS ?_
          · intro w hSw
            go_simp
            try (intro h; exfalso; omega)
            try (simp only [decide_eq_true_eq, decide_eq_false_iff_not] at hq; omega)
          try simp only [Act.put, sa1, sa2, sa3]
          refine wpAnyN_at (i := 4) (v := ptr g0 (o0 + i * 5 + 1)) (some 130) rfl rfl (by kernel_rfl) (by kernel_rfl) (by kernel_rfl) (by kernel_rfl) (fun _ _ _ h => h) (Or.inl ⟨by rfl, ?_⟩) TS ?_
          · intro w hSw
            go_simp
            try (intro h; exfalso; omega)
            try (simp only [decide_eq_true_eq, decide_eq_false_iff_not] at hq; omega)
          try simp only [Act.put, sa1, sa2, sa3]
          refine wpAnyN_at (i := 5) (v := .string vs) (some 131) rfl rfl (by kernel_rfl) (by kernel_rfl) (by kernel_rfl) (by kernel_rfl) (fun _ _ _ h => h) (Or.inl ⟨by rfl, ?_⟩) TS ?_
          · intro w hSw
            have q0 := cell_gr vd1 hSw (fun e => e)
            have qz := World.block_lt_of_cell? _ _ q0
            go_simp
            try (intro h; exfalso; omega)
            try (simp only [decide_eq_true_eq, decide_eq_false_iff_not] at hq; omega)
          try simp only [Act.put, sa1, sa2, sa3]
          refine wpAnyN_at (i := 6) (v := ptr tb 4) (some 132) rfl rfl (by kernel_rfl) (by kernel_rfl) (by kernel_rfl) (by kernel_rfl) (fun _ _ _ h => h) (Or.inl ⟨by rfl, ?_⟩) TS ?_
          · intro w hSw
            go_simp
            try (intro h; exfalso; omega)
            try (simp only [decide_eq_true_eq, decide_eq_false_iff_not] at hq; omega)
          try simp only [Act.put, sa1, sa2, sa3]
          refine wpAnyN_at (i := 7) (v := .slice (some ⟨g0, o0, none⟩) l.length lc) (some 133) rfl rfl (by kernel_rfl) (by kernel_rfl) (by kernel_rfl) (by kernel_rfl) (fun _ _ _ h => h) (Or.inl ⟨by rfl, ?_⟩) TS ?_
          · intro w hSw
            have q0 := cell_gr yd4 hSw (fun e => e)
            have qz := World.block_lt_of_cell? _ _ q0
            go_simp
            try (intro h; exfalso; omega)
            try (simp only [decide_eq_true_eq, decide_eq_false_iff_not] at hq; omega)
          try simp only [Act.put, sa1, sa2, sa3]
          refine wpAnyN_at (i := 8) (v := .int .i64 (i : Int)) (some 134) rfl rfl (by kernel_rfl) (by kernel_rfl) (by kernel_rfl) (by kernel_rfl) (fun _ _ _ h => h) (Or.inl ⟨by rfl, ?_⟩) TS ?_
          · intro w hSw
            go_simp
            try (intro h; exfalso; omega)
            try (simp only [decide_eq_true_eq, decide_eq_false_iff_not] at hq; omega)
          try simp only [Act.put, sa1, sa2, sa3]
          refine wpAnyN_at (i := 9) (v := ptr g0 (o0 + i * 5)) (some 135) rfl rfl (by kernel_rfl) (by kernel_rfl) (by kernel_rfl) (by kernel_rfl) (fun _ _ _ h => h) (Or.inl ⟨by rfl, ?_⟩) TS ?_
          · intro w hSw
            go_simp
            try (intro h; exfalso; omega)
            try (simp only [decide_eq_true_eq, decide_eq_false_iff_not] at hq; omega)
          try simp only [Act.put, sa1, sa2, sa3]
          refine wpAnyN_at (i := 10) (v := ptr g0 (o0 + i * 5 + 4)) (some 136) rfl rfl (by kernel_rfl) (by kernel_rfl) (by kernel_rfl) (by kernel_rfl) (fun _ _ _ h => h) (Or.inl ⟨by rfl, ?_⟩) TS ?_
          · intro w hSw
            go_simp
            try (intro h; exfalso; omega)
            try (simp only [decide_eq_true_eq, decide_eq_false_iff_not] at hq; omega)
          try simp only [Act.put, sa1, sa2, sa3]
          refine wpAnyN_at (i := 11) (v := .slice la' vl.length lc') (some 137) rfl rfl (by kernel_rfl) (by kernel_rfl) (by kernel_rfl) (by kernel_rfl) (fun _ _ _ h => h) (Or.inl ⟨by rfl, ?_⟩) TS ?_
          · intro w hSw
            have q0 := cell_gr vd4 hSw (fun e => e)
            have qz := World.block_lt_of_cell? _ _ q0
            go_simp
            try (intro h; exfalso; omega)
            try (simp only [decide_eq_true_eq, decide_eq_false_iff_not] at hq; omega)
          try simp only [Act.put, sa1, sa2, sa3]
          refine wpAnyN_at (i := 12) (v := .int .i64 (vl.length : Int)) (some 138) rfl rfl (by kernel_rfl) (by kernel_rfl) (by kernel_rfl) (by kernel_rfl) (fun _ _ _ h => h) (Or.inl ⟨by rfl, ?_⟩) TS ?_
          · intro w hSw
            go_simp
            try (intro h; exfalso; omega)
            try (simp only [decide_eq_true_eq, decide_eq_false_iff_not] at hq; omega)
          try simp only [Act.put, sa1, sa2, sa3]
          refine wpAnyN_at (i := 13) (v := .int .i64 ((vl.length : Int) - 1)) (some 139) rfl rfl (by kernel_rfl) (by kernel_rfl) (by kernel_rfl) (by kernel_rfl) (fun _ _ _ h => h) (Or.inl ⟨by rfl, ?_⟩) TS ?_
          · intro w hSw
            go_simp
            try (intro h; exfalso; omega)
            try (simp only [decide_eq_true_eq, decide_eq_false_iff_not] at hq; omega)
          try simp only [Act.put, sa1, sa2, sa3]
          refine wpAnyL_one (i := 14) (by kernel_rfl) rfl (fun K hK => ?_)
          go_simp
          refine (hbi.out _).mono ?_
          rintro e w9 ⟨rfl, g9⟩
          have TS : Gr (fun _ => False) wr.drew w9 := TS.trans g9
          refine hK.out _ _ (fun _ => TS) ?_
          clear hK K
          try simp only [Act.put, sa1, sa2, sa3]
          refine wpAnyN_at (i := 15) (v := .bool false) (some 141) rfl rfl (by kernel_rfl) (by kernel_rfl) (by kernel_rfl) (by kernel_rfl) (fun _ _ _ h => h) (Or.inl ⟨by rfl, ?_⟩) TS ?_
          · intro w hSw
            go_simp
            try (intro h; exfalso; omega)
            try (simp only [decide_eq_true_eq, decide_eq_false_iff_not] at hq; omega)
          try simp only [Act.put, sa1, sa2, sa3]
          refine wpAnyL_done (by kernel_rfl) ?_ _
          refine NoPanic.normal ?_
          have hGx := Lib.hid (hGd.out.trans TS)
          clear TS
          go_wp2_with fail
          have hlt' := hlt.out
          exact ⟨⟨i + 1, by omega, by go_num, hn2, hGx.out⟩, by simp [intOf]; omega⟩
        ·
         have hd : decide ((i : Int) < (l.length : Int)) = false := by simp; omega
         have hie : i = l.length := by omega
         have hnone : Hid (l.any (nbR) = false) := by
          have := hno.out
          rw [hie, List.take_length] at this
          exact this
         clear hie hno hd
         replace hc : Hid (R1 = R5) := by
          show _ = _
          rw [hc.out, h4.out]; unfold rf4; rw [if_neg (by rw [hnone.out]; decide)]
         clear hnone h4
         go_wp2_with fail
         go_loopw [11] (fun u wr => ∃ i : Nat, i ≤ Q.length ∧ u = .int .i64 (i : Int) ∧ Hid ((Q.take i).any (pwR) = false) ∧ Gr (fun _ => False) w1 wr) (fun u _ => Q.length - (intOf u).toNat)
         case atStart => exact ⟨0, Nat.zero_le _, rfl, rfl, hG⟩
         case round =>
          obtain ⟨i, hi, rfl, hno, hG⟩ := hrel
          by_cases hlt : i < Q.length
          ·
           skip
           have hd : decide ((i : Int) < (Q.length : Int)) = true := by simp; omega
           have hiI : (i : Int) < (Q.length : Int) := by omega
           have hTi : Q[i]? = some Q[i] := List.getElem?_eq_getElem hlt
           obtain ⟨g', o', e', hg', hTA⟩ := hck.out.rowq i _ hTi
           cases e'
           have hst := any_take (p := pwR) hTi
           have hme := any_mem (p := pwR) hTi
           have hUm := List.mem_of_getElem? hTi
           generalize Q[i] = U at hTA hst hme hUm
           obtain ⟨uk, us, un, ub, ul⟩ := U
           obtain ⟨bau, bcu, lau, lcu, ⟨u0, u1, u2, u3, u4⟩, hrowU, hglu⟩ := (hTA.g0 hG hg').parts
           have hshape := (mis_shape (hm.out _ hUm)).2.1
           have hul : ul.length ≤ 4000 := by have h9 := l_le (.mk uk us un ub ul); have := (hsub.out _ hUm).2.1; have := hlen.out; dsimp only at h9; omega
           have hulI : (ul.length : Int) ≤ 4000 := by omega
           have hR173 : Hid (pwR (.mk uk us un ub ul) = true → R5 = 173) := fun e => by
            rw [h5.out]; unfold rf5; rw [if_pos (hme e)]
           have hgo : Hid (pwR (.mk uk us un ub ul) = false → (Q.take (i + 1)).any pwR = false) := fun e => by rw [hst, hno.out, e]; rfl
           have hUs := hsub.out _ hUm
           have hb := Lib.hid hi
           replace hlt := Lib.hid hlt
           clear hme hst hno hTA
           by_cases hk9 : uk = 9 ∨ uk = 15
           case neg =>
            have q1 : (uk == 9) = false := by simp; omega
            have q2 : (uk == 15) = false := by simp; omega
            have hn2 : Hid ((Q.take (i + 1)).any pwR = false) := hgo.out (by unfold pwR; simp [q1, q2])
            clear hgo hR173 hk9 hshape hrowU hUs u1 u2 u3 u4
            go_wp2_with fail
            have hlt' := hlt.out
            exact ⟨⟨i + 1, by omega, by go_num, hn2, hG⟩, by simp [intOf]; omega⟩
           obtain ⟨A, r, rfl⟩ : ∃ A r, ul = A :: r := by
            cases ul with
            | nil => exact absurd rfl (hshape (by omega))
            | cons A r => exact ⟨A, r, rfl⟩
           obtain ⟨ga, oa', rfl, hga, hTB⟩ := hrowU 0 A rfl
           rw [Nat.zero_mul, Nat.add_zero] at hTB
           have hAm : A ∈ preL [Tr.mk uk us un ub (A :: r)] := by
            rw [preL_cons, preL_nil, List.append_nil]
            exact List.mem_cons_of_mem _ (mem_pre (List.mem_cons_self ..) A (self_pre A))
           obtain ⟨v', hRv, ⟨tk, tt, tn, a1, n1, c1, a2, n2, c2, rfl⟩, hcl⟩ := hTB.val
           have k0 : wr.cell? ⟨ga, oa', none⟩ = some (.int .i64 tk) := hcl 0 _ rfl
           have k1 := hcl 1 _ rfl
           have k2 := hcl 2 _ rfl
           have k3 := hcl 3 _ rfl
           have k4 := hcl 4 _ rfl
           have hgw := World.block_lt_of_cell? _ _ k0
           have hcall := Lib.hid (rpat_c A (hUs.1.sub hAm) (fun X hX => (mis_shape (hm.out X (hUs.2.2 X (pre_in hAm hX)))).2.1) wr.heap.size wr _ (hRv.turn (A' := fun z => z < wr.heap.size) (fun z hz hl => ⟨hl, rfl⟩)) (Nat.le_refl _))
           have hpw : pwR (.mk uk us un ub (A :: r)) = !patV A := by
            unfold pwR
            rcases hk9 with rfl | rfl <;> simp
           rw [hpw] at hR173 hgo
           have hlr : (A :: r).length = r.length + 1 := rfl
           rw [hlr] at u4 hulI
           have hulI2 : (r.length : Int) + 1 ≤ 4000 := by omega
           clear hshape hrowU hTB hAm hRv hcl hUs u1 u2 u3 hpw hulI hul hlr
           cases hp : patV A with
           | true =>
            rw [hp] at hcall hgo
            have hn2 := Lib.hid (hgo.out rfl)
            clear hgo hR173
            rcases hk9 with rfl | rfl
            all_goals
             go_wp2_with fail
             refine hcall.out.mono ?_
             rintro e w4 ⟨rfl, g4⟩
             go_wp2_with fail
             have hlt' := hlt.out
             exact ⟨⟨i + 1, by omega, by go_num, hn2, hG.trans g4⟩, by simp [intOf]; omega⟩
           | false =>
            rw [hp] at hcall hR173
            have hr := Lib.hid (hR173.out rfl)
            clear hgo hR173
            rcases hk9 with rfl | rfl
            all_goals
             go_wp2_with fail
             refine hcall.out.mono ?_
             rintro e w4 ⟨rfl, g4⟩
             go_wp2_with fail
             go_ret
             exact ⟨by rw [hc.out, hr.out]; rfl, (hGW.out.trans hG).trans g4⟩
          ·
           have hd : decide ((i : Int) < (Q.length : Int)) = false := by simp; omega
           have hie : i = Q.length := by omega
           have hnone : Hid (Q.any (pwR) = false) := by
            have := hno.out
            rw [hie, List.take_length] at this
            exact this
           clear hie hno hd
           replace hc : Hid (R1 = R6) := by
            show _ = _
            rw [hc.out, h5.out]; unfold rf5; rw [if_neg (by rw [hnone.out]; decide)]
           clear hnone h5
           go_wp2_with fail
           go_loopw [12, 13, 14, 15] (fun u12 u13 u14 u15 wr => ∃ i : Nat, i ≤ l.length ∧ u12 = .int .i64 (i : Int) ∧ Hid ((l.take i).any (unR) = false) ∧ Gr (fun _ => False) w1 wr) (fun u12 _ _ _ _ => l.length - (intOf u12).toNat)
           case atStart => exact ⟨0, Nat.zero_le _, rfl, rfl, hG⟩
           case round =>
            obtain ⟨i, hi, rfl, hno, hG⟩ := hrel
            have y4 := cell_gr hck.out.x4 hG (fun e => e)
            have htl := World.block_lt_of_cell? _ _ y4
            by_cases hlt : i < l.length
            ·
             have hd : decide ((i : Int) < (l.length : Int)) = true := by simp; omega
             have hiI : (i : Int) < (l.length : Int) := by omega
             have hTi : l[i]? = some l[i] := List.getElem?_eq_getElem hlt
             obtain ⟨g0, o0, rfl, hg', hTA⟩ := hck.out.rowl i _ hTi
             have hst := any_take (p := unR) hTi
             have hme := any_mem (p := unR) hTi
             have hUm := hlsub.out i _ hTi
             have hvk := hkid.out i _ hTi
             generalize l[i] = V at hTA hst hme hUm hvk
             obtain ⟨vk, vs, vn, vb, vl⟩ := V
             obtain ⟨ba', bc', la', lc', ⟨z0, z1, z2, z3, z4⟩, hrowV, hgl'⟩ := (hTA.g0 hG hg').parts
             have hvl : vl.length ≤ 4000 := by have h9 := l_le (.mk vk vs vn vb vl); have := (hsub.out _ hUm).2.1; have := hlen.out; dsimp only at h9; omega
             have hvlI : (vl.length : Int) ≤ 4000 := by omega
             have hb := Lib.hid hi
             replace hlt := Lib.hid hlt
             replace hvk : vk = 17 := hvk
             subst hvk
             have hmv := hm.out _ hUm
             have hVs := hsub.out _ hUm
             have hR174 : Hid (unR (.mk 17 vs vn vb vl) = true → R6 = 174) := fun e => by
              rw [h6.out]; unfold rf6; rw [if_pos (hme e)]
             have hgo : Hid (unR (.mk 17 vs vn vb vl) = false → (l.take (i + 1)).any unR = false) := fun e => by rw [hst, hno.out, e]; rfl
             obtain ⟨ps, B, rfl, hps3, hB16⟩ := fun_form rfl hmv
             obtain ⟨m, hm9⟩ : ∃ m, ps.length = m := ⟨_, rfl⟩
             have hlast : (ps ++ [B])[m]? = some B := by rw [← hm9]; simp
             obtain ⟨gl, ol, rfl, hgl, hTB⟩ := hrowV m B hlast
             have hBm : B ∈ preL [Tr.mk 17 vs vn vb (ps ++ [B])] := by
              rw [preL_cons, preL_nil, List.append_nil]
              exact List.mem_cons_of_mem _ (mem_pre (by simp) B (self_pre B))
             have hlen1 : (ps ++ [B]).length = m + 1 := by simp [hm9]
             rw [hlen1] at z4 hvlI
             have hpar := fun w (gw : Gr (fun _ => False) wr w) => rparams_c w1.heap.size w 17 vs vn _ ⟨ba', vb.length, bc', rfl⟩ _ lc' (ps ++ [B]) (hrowV.g0 gw) (Nat.le_trans hG.size gw.size) (by omega)
             rw [hlen1, show (ps ++ [B]).dropLast.map nmT = ps.map nmT by simp] at hpar
             replace hpar := Lib.hid hpar
             have hBD := bd_c _ B (Nat.le_refl _) (fun X hX => hm.out X (hVs.2.2 X (pre_in hBm hX))) (.inr hB16)
             have hBl := pre_le hBm
             have hpsl : ps.length ≤ 4000 := by omega
             obtain ⟨v', hRv, ⟨tk, tt, tn, a1, n1, c1, a2, n2, c2, rfl⟩, hcl⟩ := hTB.val
             have hbd := fun w (gw : Gr (fun _ => False) wr w) vb' (hb' : Nr w.heap.size w vb' (ps.map nmT)) => hBD w.heap.size w vb' _ _ hb' (Nat.le_refl _) (hRv.turn (A' := fun z => z < w.heap.size) (fun z hz hl => ⟨Nat.lt_of_lt_of_le hl gw.size, gw.block z hl (fun e => e)⟩)) (by rw [List.length_map]; have := hVs.2.1; have := hlen.out; omega) (by have := hVs.2.1; have := hlen.out; omega)
             have hunr : Hid (∀ (b9 : List ByteArray) (ok9 : Bool), (∀ f L, (preL [B]).length ≤ f → Rl L (ps.map nmT) → ok9 = !(lk f L B).1 ∧ (ok9 = true → Rl (lk f L B).2 b9)) → ok9 = !unR (.mk 17 vs vn vb (ps ++ [B]))) := fun b9 ok9 h => by
              have := (h 30000 (putsT [] ps) (by have := hVs.2.1; have := hlen.out; omega) (puts_rl (fun P hP => ⟨hps3 P hP, leaf3 (hm.out P (hVs.2.2 P (by rw [preL_cons, preL_nil, List.append_nil]; exact List.mem_cons_of_mem _ (mem_pre (by simp [hP]) P (self_pre P))))) (hps3 P hP)⟩))).1
              rw [this]
              unfold unR
              simp
             have hk0 : wr.cell? ⟨gl, ol + m * 5, none⟩ = some (.int .i64 tk) := hcl 0 _ rfl
             have hk1 := hcl 1 _ rfl
             have hk2 := hcl 2 _ rfl
             have hk3 := hcl 3 _ rfl
             have hk4 := hcl 4 _ rfl
             have hzb := heap_alloc_new wr (.cells #[.int .i64 17, .string vs, .int .i64 vn, .slice ba' vb.length bc', .slice (some ⟨gl, ol, none⟩) (m + 1) lc'] 25)
             have gf := Gr.alloc wr (.cells #[.int .i64 17, .string vs, .int .i64 vn, .slice ba' vb.length bc', .slice (some ⟨gl, ol, none⟩) (m + 1) lc'] 25) (fun _ => False)
             obtain ⟨wf, hwf⟩ : ∃ wf, wr.alloc (.cells #[.int .i64 17, .string vs, .int .i64 vn, .slice ba' vb.length bc', .slice (some ⟨gl, ol, none⟩) (m + 1) lc'] 25) = wf := ⟨_, rfl⟩
             rw [hwf] at hzb gf
             have gd := gf.trans (Gr.drew wf (fun _ => False))
             obtain ⟨⟨f0, f1, f2, f3, f4⟩, _⟩ := five_cells ((Gr.drew wf (fun _ => False)).keep hzb (fun e => e))
             have k0 := cell_gr hk0 gd (fun e => e)
             have k1 := cell_gr hk1 gd (fun e => e)
             have k2 := cell_gr hk2 gd (fun e => e)
             have k3 := cell_gr hk3 gd (fun e => e)
             have k4 := cell_gr hk4 gd (fun e => e)
             replace hpar := Lib.hid (fun w (gw : Gr (fun _ => False) wf.drew w) => hpar.out w (gd.trans gw))
             replace hbd := Lib.hid (fun w (gw : Gr (fun _ => False) wf.drew w) => hbd w (gd.trans gw))
             have hGd := Lib.hid (hG.trans gd)
             replace hwf := Lib.hid hwf
             have hmI9 : (m : Int) ≤ 4000 := by omega
             have hmw : IntKind.i64.wrap (m : Int) = (m : Int) := wrap_small (by omega) ⟨by omega, by omega⟩
             generalize hV9 : Tr.mk 17 vs vn vb (ps ++ [B]) = V9 at *
             generalize ps.map nmT = psn at *
             clear hme hst hno hTA hUm hrowV hcl hRv hBD hTB hk0 hk1 hk2 hk3 hk4 gf gd hvl hVs hzb hBm hlast hmv hgl hBl hpsl hB16 hps3
             go_wp2_with fail
             rw [show wr.alloc (.cells #[.int .i64 17, .string vs, .int .i64 vn, .slice ba' vb.length bc', .slice (some ⟨gl, ol, none⟩) (m + 1) lc'] 25) = wf from hwf.out]
             have TS : Gr (fun _ => False) wf.drew wf.drew := Gr.refl _ _
             refine wp_region_L (L := 100) (T := fun w => Gr (fun _ => False) wf.drew w) (by kernel_rfl) ?_
             refine wpAnyN_at (i := 0) (v := trv 17 vs vn (.slice ba' vb.length bc') (.slice (some ⟨gl, ol, none⟩) (m + 1) lc')) (some 186) rfl rfl (by kernel_rfl) (by kernel_rfl) (by kernel_rfl) (by kernel_rfl) (fun _ _ _ h => h) (Or.inl ⟨by rfl, ?_⟩) TS ?_
             · intro w hSw
               have q0 := cell_gr f0 hSw (fun e => e)
               have q1 := cell_gr f1 hSw (fun e => e)
               have q2 := cell_gr f2 hSw (fun e => e)
               have q3 := cell_gr f3 hSw (fun e => e)
               have q4 := cell_gr f4 hSw (fun e => e)
               have qz := World.block_lt_of_cell? _ _ q0
               go_simp
               try (intro h; exfalso; omega)
             try simp only [Act.put, sa1, sa2, sa3]
             refine wpAnyN_at (i := 2) (v := ptr wr.heap.size 4) (some 188) rfl rfl (by kernel_rfl) (by kernel_rfl) (by kernel_rfl) (by kernel_rfl) (fun _ _ _ h => h) (Or.inl ⟨by rfl, ?_⟩) TS ?_
             · intro w hSw
               go_simp
               try (intro h; exfalso; omega)
             try simp only [Act.put, sa1, sa2, sa3]
             refine wpAnyN_at (i := 3) (v := .slice (some ⟨gl, ol, none⟩) (m + 1) lc') (some 189) rfl rfl (by kernel_rfl) (by kernel_rfl) (by kernel_rfl) (by kernel_rfl) (fun _ _ _ h => h) (Or.inl ⟨by rfl, ?_⟩) TS ?_
             · intro w hSw
               have q0 := cell_gr f4 hSw (fun e => e)
               have qz := World.block_lt_of_cell? _ _ q0
               go_simp
               try (intro h; exfalso; omega)
             try simp only [Act.put, sa1, sa2, sa3]
             refine wpAnyN_at (i := 4) (v := ptr wr.heap.size 4) (some 190) rfl rfl (by kernel_rfl) (by kernel_rfl) (by kernel_rfl) (by kernel_rfl) (fun _ _ _ h => h) (Or.inl ⟨by rfl, ?_⟩) TS ?_
             · intro w hSw
               go_simp
               try (intro h; exfalso; omega)
             try simp only [Act.put, sa1, sa2, sa3]
             refine wpAnyN_at (i := 5) (v := .slice (some ⟨gl, ol, none⟩) (m + 1) lc') (some 191) rfl rfl (by kernel_rfl) (by kernel_rfl) (by kernel_rfl) (by kernel_rfl) (fun _ _ _ h => h) (Or.inl ⟨by rfl, ?_⟩) TS ?_
             · intro w hSw
               have q0 := cell_gr f4 hSw (fun e => e)
               have qz := World.block_lt_of_cell? _ _ q0
               go_simp
               try (intro h; exfalso; omega)
             try simp only [Act.put, sa1, sa2, sa3]
             refine wpAnyN_at (i := 6) (v := .int .i64 ((m : Int) + 1)) (some 192) rfl rfl (by kernel_rfl) (by kernel_rfl) (by kernel_rfl) (by kernel_rfl) (fun _ _ _ h => h) (Or.inl ⟨by rfl, ?_⟩) TS ?_
             · intro w hSw
               go_simp
               try (intro h; exfalso; omega)
             try simp only [Act.put, sa1, sa2, sa3]
             refine wpAnyN_at (i := 7) (v := .int .i64 (m : Int)) (some 193) rfl rfl (by kernel_rfl) (by kernel_rfl) (by kernel_rfl) (by kernel_rfl) (fun _ _ _ h => h) (Or.inl ⟨by rfl, ?_⟩) TS ?_
             · intro w hSw
               go_simp
               try (intro h; exfalso; omega)
             try simp only [Act.put, sa1, sa2, sa3]
             refine wpAnyN_at (i := 8) (v := ptr gl (ol + m * 5)) (some 194) rfl rfl (by kernel_rfl) (by kernel_rfl) (by kernel_rfl) (by kernel_rfl) (fun _ _ _ h => h) (Or.inl ⟨by rfl, ?_⟩) TS ?_
             · intro w hSw
               go_simp
               try (intro h; exfalso; omega)
             try simp only [Act.put, sa1, sa2, sa3]
             refine wpAnyN_at (i := 9) (v := trv tk tt tn (.slice a1 n1 c1) (.slice a2 n2 c2)) (some 195) rfl rfl (by kernel_rfl) (by kernel_rfl) (by kernel_rfl) (by kernel_rfl) (fun _ _ _ h => h) (Or.inl ⟨by rfl, ?_⟩) TS ?_
             · intro w hSw
               have q0 := cell_gr k0 hSw (fun e => e)
               have q1 := cell_gr k1 hSw (fun e => e)
               have q2 := cell_gr k2 hSw (fun e => e)
               have q3 := cell_gr k3 hSw (fun e => e)
               have q4 := cell_gr k4 hSw (fun e => e)
               have qz := World.block_lt_of_cell? _ _ q0
               go_simp
               try (intro h; exfalso; omega)
             try simp only [Act.put, sa1, sa2, sa3]
             refine wpAnyL_one (i := 1) (by kernel_rfl) rfl (fun K hK => ?_)
             go_simp
             refine (hpar.out _ (Gr.refl _ _)).mono ?_
             rintro e w9 ⟨v9, rfl, hN9, g9⟩
             obtain ⟨pa, pc, rfl⟩ := hN9.sv
             have hbd2 := Lib.hid (hbd.out w9 g9 _ hN9.nr)
             have TS : Gr (fun _ => False) wf.drew w9 := TS.trans g9
             refine hK.out _ _ (fun _ => TS) ?_
             clear hK K
             try simp only [Act.put, sa1, sa2, sa3]
             refine wpAnyL_one (i := 10) (by kernel_rfl) rfl (fun K hK => ?_)
             go_simp
             refine hbd2.out.mono ?_
             rintro e wA ⟨vA, b9, ok9, rfl, hNA, hlA, hsA, gA'⟩
             obtain ⟨a9, c9, rfl⟩ := hNA.sv
             have hokV : Hid (ok9 = !unR V9) := hunr.out b9 ok9 hsA
             have TS : Gr (fun _ => False) wf.drew wA := TS.trans gA'
             clear hsA hNA hlA hbd2
             refine hK.out _ _ (fun _ => TS) ?_
             clear hK K
             try simp only [Act.put, sa1, sa2, sa3]
             refine wpAnyN_at (i := 11) (v := .tuple #[.slice a9 b9.length c9, .bool ok9]) (some 185) rfl rfl (by kernel_rfl) (by kernel_rfl) (by kernel_rfl) (by kernel_rfl) (fun _ _ _ h => h) (Or.inl ⟨by rfl, ?_⟩) TS ?_
             · intro w hSw
               go_simp
               try (intro h; exfalso; omega)
             try simp only [Act.put, sa1, sa2, sa3]
             refine wpAnyN_at (i := 12) (v := .slice a9 b9.length c9) (some 197) rfl rfl (by kernel_rfl) (by kernel_rfl) (by kernel_rfl) (by kernel_rfl) (fun _ _ _ h => h) (Or.inl ⟨by rfl, ?_⟩) TS ?_
             · intro w hSw
               go_simp
               try (intro h; exfalso; omega)
             try simp only [Act.put, sa1, sa2, sa3]
             refine wpAnyN_at (i := 13) (v := .bool ok9) (some 198) rfl rfl (by kernel_rfl) (by kernel_rfl) (by kernel_rfl) (by kernel_rfl) (fun _ _ _ h => h) (Or.inl ⟨by rfl, ?_⟩) TS ?_
             · intro w hSw
               go_simp
               try (intro h; exfalso; omega)
             try simp only [Act.put, sa1, sa2, sa3]
             refine wpAnyN_at (i := 14) (v := .slice a9 b9.length c9) (some 14) rfl rfl (by kernel_rfl) (by kernel_rfl) (by kernel_rfl) (by kernel_rfl) (fun _ _ _ h => h) (Or.inl ⟨by rfl, ?_⟩) TS ?_
             · intro w hSw
               go_simp
               try (intro h; exfalso; omega)
             try simp only [Act.put, sa1, sa2, sa3]
             refine wpAnyN_at (i := 15) (v := .bool ok9) (some 15) rfl rfl (by kernel_rfl) (by kernel_rfl) (by kernel_rfl) (by kernel_rfl) (fun _ _ _ h => h) (Or.inl ⟨by rfl, ?_⟩) TS ?_
             · intro w hSw
               go_simp
               try (intro h; exfalso; omega)
             try simp only [Act.put, sa1, sa2, sa3]
             refine wpAnyL_done (by kernel_rfl) ?_ _
             refine NoPanic.normal ?_
             have hGx := Lib.hid (hGd.out.trans TS)
             clear TS
             cases ok9 with
             | false =>
              have hr := Lib.hid (hR174.out (by have := hokV.out; cases h9 : unR V9 with | true => rfl | false => rw [h9] at this; cases this))
              clear hR174 hgo hokV
              go_wp2_with fail
              go_ret
              exact ⟨by rw [hc.out, hr.out]; rfl, hGW.out.trans hGx.out⟩
             | true =>
              have hn2 := Lib.hid (hgo.out (by have := hokV.out; cases h9 : unR V9 with | false => rfl | true => rw [h9] at this; cases this))
              clear hR174 hgo hokV
              go_wp2_with fail
              have hlt' := hlt.out
              exact ⟨⟨i + 1, by omega, by go_num, hn2, hGx.out⟩, by simp [intOf]; omega⟩
            ·
             have hd : decide ((i : Int) < (l.length : Int)) = false := by simp; omega
             have hie : i = l.length := by omega
             have hnone : Hid (l.any (unR) = false) := by
              have := hno.out
              rw [hie, List.take_length] at this
              exact this
             clear hie hno hd
             replace hc : Hid (R1 = R7) := by
              show _ = _
              rw [hc.out, h6.out]; unfold rf6; rw [if_neg (by rw [hnone.out]; decide)]
             clear hnone h6
             go_wp2_with fail
             go_loopw [16] (fun u wr => ∃ i : Nat, i ≤ Q.length ∧ u = .int .i64 (i : Int) ∧ Hid ((Q.take i).any (caR l) = false) ∧ Gr (fun _ => False) w1 wr) (fun u _ => Q.length - (intOf u).toNat)
             case atStart => exact ⟨0, Nat.zero_le _, rfl, rfl, hG⟩
             case round =>
              obtain ⟨i, hi, rfl, hno, hG⟩ := hrel
              by_cases hlt : i < Q.length
              ·
               skip
               have hd : decide ((i : Int) < (Q.length : Int)) = true := by simp; omega
               have hiI : (i : Int) < (Q.length : Int) := by omega
               have hTi : Q[i]? = some Q[i] := List.getElem?_eq_getElem hlt
               obtain ⟨g', o', e', hg', hTA⟩ := hck.out.rowq i _ hTi
               cases e'
               have hst := any_take (p := caR l) hTi
               have hme := any_mem (p := caR l) hTi
               have hUm := List.mem_of_getElem? hTi
               generalize Q[i] = U at hTA hst hme hUm
               obtain ⟨uk, us, un, ub, ul⟩ := U
               have gd := Gr.drew wr (fun _ => False)
               have hGdd := hG.trans gd
               obtain ⟨bau, bcu, lau, lcu, ⟨u0, u1, u2, u3, u4⟩, _, hglu⟩ := (hTA.g0 hGdd hg').parts
               have hul : ul.length ≤ 4000 := by have h9 := l_le (.mk uk us un ub ul); have := (hsub.out _ hUm).2.1; have := hlen.out; dsimp only at h9; omega
               have hulI : (ul.length : Int) ≤ 4000 := by omega
               have y0 := cell_gr hck.out.x0 hGdd (fun e => e)
               have y1 := cell_gr hck.out.x1 hGdd (fun e => e)
               have y2 := cell_gr hck.out.x2 hGdd (fun e => e)
               have y3 := cell_gr hck.out.x3 hGdd (fun e => e)
               have y4 := cell_gr hck.out.x4 hGdd (fun e => e)
               have htl := World.block_lt_of_cell? _ _ y0
               have hbi := Lib.hid (fun w => rbuiltin_c w us (ul.length : Int))
               have hth := Lib.hid (fun w (gw : Gr (fun _ => False) wr.drew w) => rthere_c w1.heap.size w k s n _ ⟨ba, b.length, bc, rfl⟩ la lc l us (ul.length : Int) (hck.out.rowl.g0 (hGdd.trans gw)) (Nat.le_trans hGdd.size gw.size) (by have := hll.out; omega) (fun X hX => by
                obtain ⟨jx, hjx, e⟩ := List.getElem_of_mem hX
                have h8 := hlsub.out jx X (by rw [← e]; exact List.getElem?_eq_getElem hjx)
                have h9 := l_le X
                have := (hsub.out _ h8).2.1
                have := hlen.out
                omega))
               have hcav : caR l (.mk uk us un ub ul) = ((uk == 11) && ((biV us (ul.length : Int) : Int) == 0) && !l.any (thT us (ul.length : Int))) := rfl
               rw [hcav] at hst hme
               have hR175 : Hid (((uk == 11) && ((biV us (ul.length : Int) : Int) == 0) && !l.any (thT us (ul.length : Int))) = true → R7 = 175) := fun e => by
                rw [h7.out]; unfold rf7; rw [if_pos (hme e)]
               have hgo : Hid (((uk == 11) && ((biV us (ul.length : Int) : Int) == 0) && !l.any (thT us (ul.length : Int))) = false → (Q.take (i + 1)).any (caR l) = false) := fun e => by rw [hst, hno.out, e]; rfl
               generalize biV us (ul.length : Int) = bq at hbi hR175 hgo
               generalize l.any (thT us (ul.length : Int)) = th at hth hR175 hgo
               have hGd := Lib.hid hGdd
               have hb := Lib.hid hi
               replace hlt := Lib.hid hlt
               clear hme hst hno hTA hUm gd hcav hGdd u2 u3
               cases qk : (uk == 11) with
               | false =>
                rw [qk] at hgo
                have hn2 := Lib.hid (hgo.out (by simp))
                clear hR175 hgo
                go_wp2_with fail
                have TS : Gr (fun _ => False) wr.drew wr.drew := Gr.refl _ _
                refine wp_region_L (L := 100) (T := fun w => Gr (fun _ => False) wr.drew w) (by kernel_rfl) ?_
                refine wpAnyN_at (i := 0) (v := .slice (some ⟨gq, oq, none⟩) Q.length oc) (some 207) rfl rfl (by kernel_rfl) (by kernel_rfl) (by kernel_rfl) (by kernel_rfl) (fun _ _ _ h => h) (Or.inl ⟨by rfl, ?_⟩) TS ?_
                · intro w hSw
                  go_simp
                  try (intro h; exfalso; omega)
                try simp only [Act.put, sa1, sa2, sa3]
                refine wpAnyN_at (i := 1) (v := .int .i64 (i : Int)) (some 208) rfl rfl (by kernel_rfl) (by kernel_rfl) (by kernel_rfl) (by kernel_rfl) (fun _ _ _ h => h) (Or.inl ⟨by rfl, ?_⟩) TS ?_
                · intro w hSw
                  go_simp
                  try (intro h; exfalso; omega)
                try simp only [Act.put, sa1, sa2, sa3]
                refine wpAnyN_at (i := 2) (v := ptr gq (oq + i * 5)) (some 209) rfl rfl (by kernel_rfl) (by kernel_rfl) (by kernel_rfl) (by kernel_rfl) (fun _ _ _ h => h) (Or.inl ⟨by rfl, ?_⟩) TS ?_
                · intro w hSw
                  go_simp
                  try (intro h; exfalso; omega)
                try simp only [Act.put, sa1, sa2, sa3]
                refine wpAnyN_at (i := 3) (v := ptr gq (oq + i * 5)) (some 210) rfl rfl (by kernel_rfl) (by kernel_rfl) (by kernel_rfl) (by kernel_rfl) (fun _ _ _ h => h) (Or.inl ⟨by rfl, ?_⟩) TS ?_
                · intro w hSw
                  go_simp
                  try (intro h; exfalso; omega)
                try simp only [Act.put, sa1, sa2, sa3]
                refine wpAnyN_at (i := 4) (v := .int .i64 uk) (some 211) rfl rfl (by kernel_rfl) (by kernel_rfl) (by kernel_rfl) (by kernel_rfl) (fun _ _ _ h => h) (Or.inl ⟨by rfl, ?_⟩) TS ?_
                · intro w hSw
                  have q0 := cell_gr u0 hSw (fun e => e)
                  have qz := World.block_lt_of_cell? _ _ q0
                  go_simp
                  try (intro h; exfalso; omega)
                try simp only [Act.put, sa1, sa2, sa3]
                refine wpAnyN_at (i := 5) (v := .bool false) (some 212) rfl rfl (by kernel_rfl) (by kernel_rfl) (by kernel_rfl) (by kernel_rfl) (fun _ _ _ h => h) (Or.inl ⟨by rfl, ?_⟩) TS ?_
                · intro w hSw
                  go_simp
                  try (intro h; exfalso; omega)
                try simp only [Act.put, sa1, sa2, sa3]
                refine wpAnyN_at (i := 6) (v := .bool false) (some 213) rfl rfl (by kernel_rfl) (by kernel_rfl) (by kernel_rfl) (by kernel_rfl) (fun _ _ _ h => h) (Or.inl ⟨by rfl, ?_⟩) TS ?_
                · intro w hSw
                  go_simp
                  try (intro h; exfalso; omega)
                try simp only [Act.put, sa1, sa2, sa3]
                refine wpAnyN_at (i := 7) (v := undef) (some 214) rfl rfl (by kernel_rfl) (by kernel_rfl) (by kernel_rfl) (by kernel_rfl) (fun _ _ _ h => h) (Or.inr ⟨by rfl, rfl⟩) TS ?_
                try simp only [Act.put, sa1, sa2, sa3]
                refine wpAnyN_at (i := 8) (v := undef) (some 215) rfl rfl (by kernel_rfl) (by kernel_rfl) (by kernel_rfl) (by kernel_rfl) (fun _ _ _ h => h) (Or.inr ⟨by rfl, rfl⟩) TS ?_
                try simp only [Act.put, sa1, sa2, sa3]
                refine wpAnyN_at (i := 9) (v := undef) (some 216) rfl rfl (by kernel_rfl) (by kernel_rfl) (by kernel_rfl) (by kernel_rfl) (fun _ _ _ h => h) (Or.inr ⟨by rfl, rfl⟩) TS ?_
                try simp only [Act.put, sa1, sa2, sa3]
                refine wpAnyN_at (i := 10) (v := undef) (some 217) rfl rfl (by kernel_rfl) (by kernel_rfl) (by kernel_rfl) (by kernel_rfl) (fun _ _ _ h => h) (Or.inr ⟨by rfl, rfl⟩) TS ?_
                try simp only [Act.put, sa1, sa2, sa3]
                refine wpAnyN_at (i := 11) (v := undef) (some 218) rfl rfl (by kernel_rfl) (by kernel_rfl) (by kernel_rfl) (by kernel_rfl) (fun _ _ _ h => h) (Or.inr ⟨by rfl, rfl⟩) TS ?_
                try simp only [Act.put, sa1, sa2, sa3]
                refine wpAnyN_at (i := 12) (v := undef) (some 219) rfl rfl (by kernel_rfl) (by kernel_rfl) (by kernel_rfl) (by kernel_rfl) (fun _ _ _ h => h) (Or.inr ⟨by rfl, rfl⟩) TS ?_
                try simp only [Act.put, sa1, sa2, sa3]
                refine wpAnyN_at (i := 13) (v := undef) (some 220) rfl rfl (by kernel_rfl) (by kernel_rfl) (by kernel_rfl) (by kernel_rfl) (fun _ _ _ h => h) (Or.inr ⟨by rfl, rfl⟩) TS ?_
                try simp only [Act.put, sa1, sa2, sa3]
                refine wpAnyN_at (i := 14) (v := undef) (some 221) rfl rfl (by kernel_rfl) (by kernel_rfl) (by kernel_rfl) (by kernel_rfl) (fun _ _ _ h => h) (Or.inr ⟨by rfl, rfl⟩) TS ?_
                try simp only [Act.put, sa1, sa2, sa3]
                refine wpAnyN_at (i := 15) (v := undef) (some 222) rfl rfl (by kernel_rfl) (by kernel_rfl) (by kernel_rfl) (by kernel_rfl) (fun _ _ _ h => h) (Or.inr ⟨by rfl, rfl⟩) TS ?_
                try simp only [Act.put, sa1, sa2, sa3]
                refine wpAnyN_at (i := 16) (v := undef) (some 223) rfl rfl (by kernel_rfl) (by kernel_rfl) (by kernel_rfl) (by kernel_rfl) (fun _ _ _ h => h) (Or.inr ⟨by rfl, rfl⟩) TS ?_
                try simp only [Act.put, sa1, sa2, sa3]
                refine wpAnyN_at (i := 17) (v := undef) (some 224) rfl rfl (by kernel_rfl) (by kernel_rfl) (by kernel_rfl) (by kernel_rfl) (fun _ _ _ h => h) (Or.inr ⟨by rfl, rfl⟩) TS ?_
                try simp only [Act.put, sa1, sa2, sa3]
                refine wpAnyN_at (i := 18) (v := undef) (some 225) rfl rfl (by kernel_rfl) (by kernel_rfl) (by kernel_rfl) (by kernel_rfl) (fun _ _ _ h => h) (Or.inr ⟨by rfl, rfl⟩) TS ?_
                try simp only [Act.put, sa1, sa2, sa3]
                refine wpAnyN_at (i := 19) (v := undef) (some 226) rfl rfl (by kernel_rfl) (by kernel_rfl) (by kernel_rfl) (by kernel_rfl) (fun _ _ _ h => h) (Or.inr ⟨by rfl, rfl⟩) TS ?_
                try simp only [Act.put, sa1, sa2, sa3]
                refine wpAnyN_at (i := 20) (v := .bool false) (some 227) rfl rfl (by kernel_rfl) (by kernel_rfl) (by kernel_rfl) (by kernel_rfl) (fun _ _ _ h => h) (Or.inl ⟨by rfl, ?_⟩) TS ?_
                · intro w hSw
                  go_simp
                  try (intro h; exfalso; omega)
                try simp only [Act.put, sa1, sa2, sa3]
                refine wpAnyN_at (i := 21) (v := .bool false) (some 228) rfl rfl (by kernel_rfl) (by kernel_rfl) (by kernel_rfl) (by kernel_rfl) (fun _ _ _ h => h) (Or.inl ⟨by rfl, ?_⟩) TS ?_
                · intro w hSw
                  go_simp
                  try (intro h; exfalso; omega)
                try simp only [Act.put, sa1, sa2, sa3]
                refine wpAnyN_at (i := 22) (v := undef) (some 229) rfl rfl (by kernel_rfl) (by kernel_rfl) (by kernel_rfl) (by kernel_rfl) (fun _ _ _ h => h) (Or.inr ⟨by rfl, rfl⟩) TS ?_
                try simp only [Act.put, sa1, sa2, sa3]
                refine wpAnyN_at (i := 23) (v := undef) (some 230) rfl rfl (by kernel_rfl) (by kernel_rfl) (by kernel_rfl) (by kernel_rfl) (fun _ _ _ h => h) (Or.inr ⟨by rfl, rfl⟩) TS ?_
                try simp only [Act.put, sa1, sa2, sa3]
                refine wpAnyN_at (i := 24) (v := undef) (some 231) rfl rfl (by kernel_rfl) (by kernel_rfl) (by kernel_rfl) (by kernel_rfl) (fun _ _ _ h => h) (Or.inr ⟨by rfl, rfl⟩) TS ?_
                try simp only [Act.put, sa1, sa2, sa3]
                refine wpAnyN_at (i := 25) (v := undef) (some 232) rfl rfl (by kernel_rfl) (by kernel_rfl) (by kernel_rfl) (by kernel_rfl) (fun _ _ _ h => h) (Or.inr ⟨by rfl, rfl⟩) TS ?_
                try simp only [Act.put, sa1, sa2, sa3]
                refine wpAnyN_at (i := 26) (v := undef) (some 233) rfl rfl (by kernel_rfl) (by kernel_rfl) (by kernel_rfl) (by kernel_rfl) (fun _ _ _ h => h) (Or.inr ⟨by rfl, rfl⟩) TS ?_
                try simp only [Act.put, sa1, sa2, sa3]
                refine wpAnyN_at (i := 27) (v := undef) (some 234) rfl rfl (by kernel_rfl) (by kernel_rfl) (by kernel_rfl) (by kernel_rfl) (fun _ _ _ h => h) (Or.inr ⟨by rfl, rfl⟩) TS ?_
                try simp only [Act.put, sa1, sa2, sa3]
                refine wpAnyN_at (i := 28) (v := undef) (some 235) rfl rfl (by kernel_rfl) (by kernel_rfl) (by kernel_rfl) (by kernel_rfl) (fun _ _ _ h => h) (Or.inr ⟨by rfl, rfl⟩) TS ?_
                try simp only [Act.put, sa1, sa2, sa3]
                refine wpAnyN_at (i := 29) (v := undef) (some 236) rfl rfl (by kernel_rfl) (by kernel_rfl) (by kernel_rfl) (by kernel_rfl) (fun _ _ _ h => h) (Or.inr ⟨by rfl, rfl⟩) TS ?_
                try simp only [Act.put, sa1, sa2, sa3]
                refine wpAnyN_at (i := 30) (v := undef) (some 237) rfl rfl (by kernel_rfl) (by kernel_rfl) (by kernel_rfl) (by kernel_rfl) (fun _ _ _ h => h) (Or.inr ⟨by rfl, rfl⟩) TS ?_
                try simp only [Act.put, sa1, sa2, sa3]
                refine wpAnyN_at (i := 31) (v := undef) (some 238) rfl rfl (by kernel_rfl) (by kernel_rfl) (by kernel_rfl) (by kernel_rfl) (fun _ _ _ h => h) (Or.inr ⟨by rfl, rfl⟩) TS ?_
                try simp only [Act.put, sa1, sa2, sa3]
                refine wpAnyN_at (i := 32) (v := undef) (some 239) rfl rfl (by kernel_rfl) (by kernel_rfl) (by kernel_rfl) (by kernel_rfl) (fun _ _ _ h => h) (Or.inr ⟨by rfl, rfl⟩) TS ?_
                try simp only [Act.put, sa1, sa2, sa3]
                refine wpAnyN_at (i := 33) (v := undef) (some 240) rfl rfl (by kernel_rfl) (by kernel_rfl) (by kernel_rfl) (by kernel_rfl) (fun _ _ _ h => h) (Or.inr ⟨by rfl, rfl⟩) TS ?_
                try simp only [Act.put, sa1, sa2, sa3]
                refine wpAnyN_at (i := 34) (v := undef) (some 241) rfl rfl (by kernel_rfl) (by kernel_rfl) (by kernel_rfl) (by kernel_rfl) (fun _ _ _ h => h) (Or.inr ⟨by rfl, rfl⟩) TS ?_
                try simp only [Act.put, sa1, sa2, sa3]
                refine wpAnyN_at (i := 35) (v := undef) (some 242) rfl rfl (by kernel_rfl) (by kernel_rfl) (by kernel_rfl) (by kernel_rfl) (fun _ _ _ h => h) (Or.inr ⟨by rfl, rfl⟩) TS ?_
                try simp only [Act.put, sa1, sa2, sa3]
                refine wpAnyN_at (i := 36) (v := .bool false) (some 243) rfl rfl (by kernel_rfl) (by kernel_rfl) (by kernel_rfl) (by kernel_rfl) (fun _ _ _ h => h) (Or.inl ⟨by rfl, ?_⟩) TS ?_
                · intro w hSw
                  go_simp
                  try (intro h; exfalso; omega)
                try simp only [Act.put, sa1, sa2, sa3]
                refine wpAnyL_done (by kernel_rfl) ?_ _
                refine NoPanic.normal ?_
                have hGx := Lib.hid (hGd.out.trans TS)
                clear TS
                go_wp2_with fail
                have hlt' := hlt.out
                exact ⟨⟨i + 1, by omega, by go_num, hn2, hGx.out⟩, by simp [intOf]; omega⟩
               | true =>
                rw [qk] at hgo hR175
                cases qb : ((bq : Int) == 0) with
                | false =>
                 rw [qb] at hgo
                 have hn2 := Lib.hid (hgo.out (by simp))
                 clear hR175 hgo
                 go_wp2_with fail
                 have TS : Gr (fun _ => False) wr.drew wr.drew := Gr.refl _ _
                 refine wp_region_L (L := 100) (T := fun w => Gr (fun _ => False) wr.drew w) (by kernel_rfl) ?_
                 refine wpAnyN_at (i := 0) (v := .slice (some ⟨gq, oq, none⟩) Q.length oc) (some 207) rfl rfl (by kernel_rfl) (by kernel_rfl) (by kernel_rfl) (by kernel_rfl) (fun _ _ _ h => h) (Or.inl ⟨by rfl, ?_⟩) TS ?_
                 · intro w hSw
                   go_simp
                   try (intro h; exfalso; omega)
                 try simp only [Act.put, sa1, sa2, sa3]
                 refine wpAnyN_at (i := 1) (v := .int .i64 (i : Int)) (some 208) rfl rfl (by kernel_rfl) (by kernel_rfl) (by kernel_rfl) (by kernel_rfl) (fun _ _ _ h => h) (Or.inl ⟨by rfl, ?_⟩) TS ?_
                 · intro w hSw
                   go_simp
                   try (intro h; exfalso; omega)
                 try simp only [Act.put, sa1, sa2, sa3]
                 refine wpAnyN_at (i := 2) (v := ptr gq (oq + i * 5)) (some 209) rfl rfl (by kernel_rfl) (by kernel_rfl) (by kernel_rfl) (by kernel_rfl) (fun _ _ _ h => h) (Or.inl ⟨by rfl, ?_⟩) TS ?_
                 · intro w hSw
                   go_simp
                   try (intro h; exfalso; omega)
                 try simp only [Act.put, sa1, sa2, sa3]
                 refine wpAnyN_at (i := 3) (v := ptr gq (oq + i * 5)) (some 210) rfl rfl (by kernel_rfl) (by kernel_rfl) (by kernel_rfl) (by kernel_rfl) (fun _ _ _ h => h) (Or.inl ⟨by rfl, ?_⟩) TS ?_
                 · intro w hSw
                   go_simp
                   try (intro h; exfalso; omega)
                 try simp only [Act.put, sa1, sa2, sa3]
                 refine wpAnyN_at (i := 4) (v := .int .i64 uk) (some 211) rfl rfl (by kernel_rfl) (by kernel_rfl) (by kernel_rfl) (by kernel_rfl) (fun _ _ _ h => h) (Or.inl ⟨by rfl, ?_⟩) TS ?_
                 · intro w hSw
                   have q0 := cell_gr u0 hSw (fun e => e)
                   have qz := World.block_lt_of_cell? _ _ q0
                   go_simp
                   try (intro h; exfalso; omega)
                 try simp only [Act.put, sa1, sa2, sa3]
                 refine wpAnyN_at (i := 5) (v := .bool true) (some 212) rfl rfl (by kernel_rfl) (by kernel_rfl) (by kernel_rfl) (by kernel_rfl) (fun _ _ _ h => h) (Or.inl ⟨by rfl, ?_⟩) TS ?_
                 · intro w hSw
                   go_simp
                   try (intro h; exfalso; omega)
                 try simp only [Act.put, sa1, sa2, sa3]
                 refine wpAnyN_at (i := 6) (v := .bool true) (some 213) rfl rfl (by kernel_rfl) (by kernel_rfl) (by kernel_rfl) (by kernel_rfl) (fun _ _ _ h => h) (Or.inl ⟨by rfl, ?_⟩) TS ?_
                 · intro w hSw
                   go_simp
                   try (intro h; exfalso; omega)
                 try simp only [Act.put, sa1, sa2, sa3]
                 refine wpAnyN_at (i := 7) (v := .slice (some ⟨gq, oq, none⟩) Q.length oc) (some 214) rfl rfl (by kernel_rfl) (by kernel_rfl) (by kernel_rfl) (by kernel_rfl) (fun _ _ _ h => h) (Or.inl ⟨by rfl, ?_⟩) TS ?_
                 · intro w hSw
                   go_simp
                   try (intro h; exfalso; omega)
                 try simp only [Act.put, sa1, sa2, sa3]
                 refine wpAnyN_at (i := 8) (v := .int .i64 (i : Int)) (some 215) rfl rfl (by kernel_rfl) (by kernel_rfl) (by kernel_rfl) (by kernel_rfl) (fun _ _ _ h => h) (Or.inl ⟨by rfl, ?_⟩) TS ?_
                 · intro w hSw
                   go_simp
                   try (intro h; exfalso; omega)
                 try simp only [Act.put, sa1, sa2, sa3]
                 refine wpAnyN_at (i := 9) (v := ptr gq (oq + i * 5)) (some 216) rfl rfl (by kernel_rfl) (by kernel_rfl) (by kernel_rfl) (by kernel_rfl) (fun _ _ _ h => h) (Or.inl ⟨by rfl, ?_⟩) TS ?_
                 · intro w hSw
                   go_simp
                   try (intro h; exfalso; omega)
                 try simp only [Act.put, sa1, sa2, sa3]
                 refine wpAnyN_at (i := 10) (v := ptr gq (oq + i * 5 + 1)) (some 217) rfl rfl (by kernel_rfl) (by kernel_rfl) (by kernel_rfl) (by kernel_rfl) (fun _ _ _ h => h) (Or.inl ⟨by rfl, ?_⟩) TS ?_
                 · intro w hSw
                   go_simp
                   try (intro h; exfalso; omega)
                 try simp only [Act.put, sa1, sa2, sa3]
                 refine wpAnyN_at (i := 11) (v := .string us) (some 218) rfl rfl (by kernel_rfl) (by kernel_rfl) (by kernel_rfl) (by kernel_rfl) (fun _ _ _ h => h) (Or.inl ⟨by rfl, ?_⟩) TS ?_
                 · intro w hSw
                   have q0 := cell_gr u1 hSw (fun e => e)
                   have qz := World.block_lt_of_cell? _ _ q0
                   go_simp
                   try (intro h; exfalso; omega)
                 try simp only [Act.put, sa1, sa2, sa3]
                 refine wpAnyN_at (i := 12) (v := .slice (some ⟨gq, oq, none⟩) Q.length oc) (some 219) rfl rfl (by kernel_rfl) (by kernel_rfl) (by kernel_rfl) (by kernel_rfl) (fun _ _ _ h => h) (Or.inl ⟨by rfl, ?_⟩) TS ?_
                 · intro w hSw
                   go_simp
                   try (intro h; exfalso; omega)
                 try simp only [Act.put, sa1, sa2, sa3]
                 refine wpAnyN_at (i := 13) (v := .int .i64 (i : Int)) (some 220) rfl rfl (by kernel_rfl) (by kernel_rfl) (by kernel_rfl) (by kernel_rfl) (fun _ _ _ h => h) (Or.inl ⟨by rfl, ?_⟩) TS ?_
                 · intro w hSw
                   go_simp
                   try (intro h; exfalso; omega)
                 try simp only [Act.put, sa1, sa2, sa3]
                 refine wpAnyN_at (i := 14) (v := ptr gq (oq + i * 5)) (some 221) rfl rfl (by kernel_rfl) (by kernel_rfl) (by kernel_rfl) (by kernel_rfl) (fun _ _ _ h => h) (Or.inl ⟨by rfl, ?_⟩) TS ?_
                 · intro w hSw
                   go_simp
                   try (intro h; exfalso; omega)
                 try simp only [Act.put, sa1, sa2, sa3]
                 refine wpAnyN_at (i := 15) (v := ptr gq (oq + i * 5 + 4)) (some 222) rfl rfl (by kernel_rfl) (by kernel_rfl) (by kernel_rfl) (by kernel_rfl) (fun _ _ _ h => h) (Or.inl ⟨by rfl, ?_⟩) TS ?_
                 · intro w hSw
                   go_simp
                   try (intro h; exfalso; omega)
                 try simp only [Act.put, sa1, sa2, sa3]
                 refine wpAnyN_at (i := 16) (v := .slice lau ul.length lcu) (some 223) rfl rfl (by kernel_rfl) (by kernel_rfl) (by kernel_rfl) (by kernel_rfl) (fun _ _ _ h => h) (Or.inl ⟨by rfl, ?_⟩) TS ?_
                 · intro w hSw
                   have q0 := cell_gr u4 hSw (fun e => e)
                   have qz := World.block_lt_of_cell? _ _ q0
                   go_simp
                   try (intro h; exfalso; omega)
                 try simp only [Act.put, sa1, sa2, sa3]
                 refine wpAnyN_at (i := 17) (v := .int .i64 (ul.length : Int)) (some 224) rfl rfl (by kernel_rfl) (by kernel_rfl) (by kernel_rfl) (by kernel_rfl) (fun _ _ _ h => h) (Or.inl ⟨by rfl, ?_⟩) TS ?_
                 · intro w hSw
                   go_simp
                   try (intro h; exfalso; omega)
                 try simp only [Act.put, sa1, sa2, sa3]
                 refine wpAnyL_one (i := 18) (by kernel_rfl) rfl (fun K hK => ?_)
                 go_simp
                 refine (hbi.out _).mono ?_
                 rintro e w9 ⟨rfl, g9⟩
                 have TS : Gr (fun _ => False) wr.drew w9 := TS.trans g9
                 refine hK.out _ _ (fun _ => TS) ?_
                 clear hK K
                 try simp only [Act.put, sa1, sa2, sa3]
                 refine wpAnyN_at (i := 19) (v := .bool false) (some 226) rfl rfl (by kernel_rfl) (by kernel_rfl) (by kernel_rfl) (by kernel_rfl) (fun _ _ _ h => h) (Or.inl ⟨by rfl, ?_⟩) TS ?_
                 · intro w hSw
                   go_simp
                   try (intro h; exfalso; omega)
                 try simp only [Act.put, sa1, sa2, sa3]
                 refine wpAnyN_at (i := 20) (v := .bool false) (some 227) rfl rfl (by kernel_rfl) (by kernel_rfl) (by kernel_rfl) (by kernel_rfl) (fun _ _ _ h => h) (Or.inl ⟨by rfl, ?_⟩) TS ?_
                 · intro w hSw
                   go_simp
                   try (intro h; exfalso; omega)
                 try simp only [Act.put, sa1, sa2, sa3]
                 refine wpAnyN_at (i := 21) (v := .bool false) (some 228) rfl rfl (by kernel_rfl) (by kernel_rfl) (by kernel_rfl) (by kernel_rfl) (fun _ _ _ h => h) (Or.inl ⟨by rfl, ?_⟩) TS ?_
                 · intro w hSw
                   go_simp
                   try (intro h; exfalso; omega)
                 try simp only [Act.put, sa1, sa2, sa3]
                 refine wpAnyN_at (i := 22) (v := undef) (some 229) rfl rfl (by kernel_rfl) (by kernel_rfl) (by kernel_rfl) (by kernel_rfl) (fun _ _ _ h => h) (Or.inr ⟨by rfl, rfl⟩) TS ?_
                 try simp only [Act.put, sa1, sa2, sa3]
                 refine wpAnyN_at (i := 23) (v := undef) (some 230) rfl rfl (by kernel_rfl) (by kernel_rfl) (by kernel_rfl) (by kernel_rfl) (fun _ _ _ h => h) (Or.inr ⟨by rfl, rfl⟩) TS ?_
                 try simp only [Act.put, sa1, sa2, sa3]
                 refine wpAnyN_at (i := 24) (v := undef) (some 231) rfl rfl (by kernel_rfl) (by kernel_rfl) (by kernel_rfl) (by kernel_rfl) (fun _ _ _ h => h) (Or.inr ⟨by rfl, rfl⟩) TS ?_
                 try simp only [Act.put, sa1, sa2, sa3]
                 refine wpAnyN_at (i := 25) (v := undef) (some 232) rfl rfl (by kernel_rfl) (by kernel_rfl) (by kernel_rfl) (by kernel_rfl) (fun _ _ _ h => h) (Or.inr ⟨by rfl, rfl⟩) TS ?_
                 try simp only [Act.put, sa1, sa2, sa3]
                 refine wpAnyN_at (i := 26) (v := undef) (some 233) rfl rfl (by kernel_rfl) (by kernel_rfl) (by kernel_rfl) (by kernel_rfl) (fun _ _ _ h => h) (Or.inr ⟨by rfl, rfl⟩) TS ?_
                 try simp only [Act.put, sa1, sa2, sa3]
                 refine wpAnyN_at (i := 27) (v := undef) (some 234) rfl rfl (by kernel_rfl) (by kernel_rfl) (by kernel_rfl) (by kernel_rfl) (fun _ _ _ h => h) (Or.inr ⟨by rfl, rfl⟩) TS ?_
                 try simp only [Act.put, sa1, sa2, sa3]
                 refine wpAnyN_at (i := 28) (v := undef) (some 235) rfl rfl (by kernel_rfl) (by kernel_rfl) (by kernel_rfl) (by kernel_rfl) (fun _ _ _ h => h) (Or.inr ⟨by rfl, rfl⟩) TS ?_
                 try simp only [Act.put, sa1, sa2, sa3]
                 refine wpAnyN_at (i := 29) (v := undef) (some 236) rfl rfl (by kernel_rfl) (by kernel_rfl) (by kernel_rfl) (by kernel_rfl) (fun _ _ _ h => h) (Or.inr ⟨by rfl, rfl⟩) TS ?_
                 try simp only [Act.put, sa1, sa2, sa3]
                 refine wpAnyN_at (i := 30) (v := undef) (some 237) rfl rfl (by kernel_rfl) (by kernel_rfl) (by kernel_rfl) (by kernel_rfl) (fun _ _ _ h => h) (Or.inr ⟨by rfl, rfl⟩) TS ?_
                 try simp only [Act.put, sa1, sa2, sa3]
                 refine wpAnyN_at (i := 31) (v := undef) (some 238) rfl rfl (by kernel_rfl) (by kernel_rfl) (by kernel_rfl) (by kernel_rfl) (fun _ _ _ h => h) (Or.inr ⟨by rfl, rfl⟩) TS ?_
                 try simp only [Act.put, sa1, sa2, sa3]
                 refine wpAnyN_at (i := 32) (v := undef) (some 239) rfl rfl (by kernel_rfl) (by kernel_rfl) (by kernel_rfl) (by kernel_rfl) (fun _ _ _ h => h) (Or.inr ⟨by rfl, rfl⟩) TS ?_
                 try simp only [Act.put, sa1, sa2, sa3]
                 refine wpAnyN_at (i := 33) (v := undef) (some 240) rfl rfl (by kernel_rfl) (by kernel_rfl) (by kernel_rfl) (by kernel_rfl) (fun _ _ _ h => h) (Or.inr ⟨by rfl, rfl⟩) TS ?_
                 try simp only [Act.put, sa1, sa2, sa3]
                 refine wpAnyN_at (i := 34) (v := undef) (some 241) rfl rfl (by kernel_rfl) (by kernel_rfl) (by kernel_rfl) (by kernel_rfl) (fun _ _ _ h => h) (Or.inr ⟨by rfl, rfl⟩) TS ?_
                 try simp only [Act.put, sa1, sa2, sa3]
                 refine wpAnyN_at (i := 35) (v := undef) (some 242) rfl rfl (by kernel_rfl) (by kernel_rfl) (by kernel_rfl) (by kernel_rfl) (fun _ _ _ h => h) (Or.inr ⟨by rfl, rfl⟩) TS ?_
                 try simp only [Act.put, sa1, sa2, sa3]
                 refine wpAnyN_at (i := 36) (v := .bool false) (some 243) rfl rfl (by kernel_rfl) (by kernel_rfl) (by kernel_rfl) (by kernel_rfl) (fun _ _ _ h => h) (Or.inl ⟨by rfl, ?_⟩) TS ?_
                 · intro w hSw
                   go_simp
                   try (intro h; exfalso; omega)
                 try simp only [Act.put, sa1, sa2, sa3]
                 refine wpAnyL_done (by kernel_rfl) ?_ _
                 refine NoPanic.normal ?_
                 have hGx := Lib.hid (hGd.out.trans TS)
                 clear TS
                 go_wp2_with fail
                 have hlt' := hlt.out
                 exact ⟨⟨i + 1, by omega, by go_num, hn2, hGx.out⟩, by simp [intOf]; omega⟩
                | true =>
                 rw [qb] at hgo hR175
                 cases th with
                 | true =>
                  have hn2 := Lib.hid (hgo.out (by simp))
                  clear hR175 hgo
                  go_wp2_with fail
                  have TS : Gr (fun _ => False) wr.drew wr.drew := Gr.refl _ _
                  refine wp_region_L (L := 100) (T := fun w => Gr (fun _ => False) wr.drew w) (by kernel_rfl) ?_
                  refine wpAnyN_at (i := 0) (v := .slice (some ⟨gq, oq, none⟩) Q.length oc) (some 207) rfl rfl (by kernel_rfl) (by kernel_rfl) (by kernel_rfl) (by kernel_rfl) (fun _ _ _ h => h) (Or.inl ⟨by rfl, ?_⟩) TS ?_
                  · intro w hSw
                    go_simp
                    try (intro h; exfalso; omega)
                  try simp only [Act.put, sa1, sa2, sa3]
                  refine wpAnyN_at (i := 1) (v := .int .i64 (i : Int)) (some 208) rfl rfl (by kernel_rfl) (by kernel_rfl) (by kernel_rfl) (by kernel_rfl) (fun _ _ _ h => h) (Or.inl ⟨by rfl, ?_⟩) TS ?_
                  · intro w hSw
                    go_simp
                    try (intro h; exfalso; omega)
                  try simp only [Act.put, sa1, sa2, sa3]
                  refine wpAnyN_at (i := 2) (v := ptr gq (oq + i * 5)) (some 209) rfl rfl (by kernel_rfl) (by kernel_rfl) (by kernel_rfl) (by kernel_rfl) (fun _ _ _ h => h) (Or.inl ⟨by rfl, ?_⟩) TS ?_
                  · intro w hSw
                    go_simp
                    try (intro h; exfalso; omega)
                  try simp only [Act.put, sa1, sa2, sa3]
                  refine wpAnyN_at (i := 3) (v := ptr gq (oq + i * 5)) (some 210) rfl rfl (by kernel_rfl) (by kernel_rfl) (by kernel_rfl) (by kernel_rfl) (fun _ _ _ h => h) (Or.inl ⟨by rfl, ?_⟩) TS ?_
                  · intro w hSw
                    go_simp
                    try (intro h; exfalso; omega)
                  try simp only [Act.put, sa1, sa2, sa3]
                  refine wpAnyN_at (i := 4) (v := .int .i64 uk) (some 211) rfl rfl (by kernel_rfl) (by kernel_rfl) (by kernel_rfl) (by kernel_rfl) (fun _ _ _ h => h) (Or.inl ⟨by rfl, ?_⟩) TS ?_
                  · intro w hSw
                    have q0 := cell_gr u0 hSw (fun e => e)
                    have qz := World.block_lt_of_cell? _ _ q0
                    go_simp
                    try (intro h; exfalso; omega)
                  try simp only [Act.put, sa1, sa2, sa3]
                  refine wpAnyN_at (i := 5) (v := .bool true) (some 212) rfl rfl (by kernel_rfl) (by kernel_rfl) (by kernel_rfl) (by kernel_rfl) (fun _ _ _ h => h) (Or.inl ⟨by rfl, ?_⟩) TS ?_
                  · intro w hSw
                    go_simp
                    try (intro h; exfalso; omega)
                  try simp only [Act.put, sa1, sa2, sa3]
                  refine wpAnyN_at (i := 6) (v := .bool true) (some 213) rfl rfl (by kernel_rfl) (by kernel_rfl) (by kernel_rfl) (by kernel_rfl) (fun _ _ _ h => h) (Or.inl ⟨by rfl, ?_⟩) TS ?_
                  · intro w hSw
                    go_simp
                    try (intro h; exfalso; omega)
                  try simp only [Act.put, sa1, sa2, sa3]
                  refine wpAnyN_at (i := 7) (v := .slice (some ⟨gq, oq, none⟩) Q.length oc) (some 214) rfl rfl (by kernel_rfl) (by kernel_rfl) (by kernel_rfl) (by kernel_rfl) (fun _ _ _ h => h) (Or.inl ⟨by rfl, ?_⟩) TS ?_
                  · intro w hSw
                    go_simp
                    try (intro h; exfalso; omega)
                  try simp only [Act.put, sa1, sa2, sa3]
                  refine wpAnyN_at (i := 8) (v := .int .i64 (i : Int)) (some 215) rfl rfl (by kernel_rfl) (by kernel_rfl) (by kernel_rfl) (by kernel_rfl) (fun _ _ _ h => h) (Or.inl ⟨by rfl, ?_⟩) TS ?_
                  · intro w hSw
                    go_simp
                    try (intro h; exfalso; omega)
                  try simp only [Act.put, sa1, sa2, sa3]
                  refine wpAnyN_at (i := 9) (v := ptr gq (oq + i * 5)) (some 216) rfl rfl (by kernel_rfl) (by kernel_rfl) (by kernel_rfl) (by kernel_rfl) (fun _ _ _ h => h) (Or.inl ⟨by rfl, ?_⟩) TS ?_
                  · intro w hSw
                    go_simp
                    try (intro h; exfalso; omega)
                  try simp only [Act.put, sa1, sa2, sa3]
                  refine wpAnyN_at (i := 10) (v := ptr gq (oq + i * 5 + 1)) (some 217) rfl rfl (by kernel_rfl) (by kernel_rfl) (by kernel_rfl) (by kernel_rfl) (fun _ _ _ h => h) (Or.inl ⟨by rfl, ?_⟩) TS ?_
                  · intro w hSw
                    go_simp
                    try (intro h; exfalso; omega)
                  try simp only [Act.put, sa1, sa2, sa3]
                  refine wpAnyN_at (i := 11) (v := .string us) (some 218) rfl rfl (by kernel_rfl) (by kernel_rfl) (by kernel_rfl) (by kernel_rfl) (fun _ _ _ h => h) (Or.inl ⟨by rfl, ?_⟩) TS ?_
                  · intro w hSw
                    have q0 := cell_gr u1 hSw (fun e => e)
                    have qz := World.block_lt_of_cell? _ _ q0
                    go_simp
                    try (intro h; exfalso; omega)
                  try simp only [Act.put, sa1, sa2, sa3]
                  refine wpAnyN_at (i := 12) (v := .slice (some ⟨gq, oq, none⟩) Q.length oc) (some 219) rfl rfl (by kernel_rfl) (by kernel_rfl) (by kernel_rfl) (by kernel_rfl) (fun _ _ _ h => h) (Or.inl ⟨by rfl, ?_⟩) TS ?_
                  · intro w hSw
                    go_simp
                    try (intro h; exfalso; omega)
                  try simp only [Act.put, sa1, sa2, sa3]
                  refine wpAnyN_at (i := 13) (v := .int .i64 (i : Int)) (some 220) rfl rfl (by kernel_rfl) (by kernel_rfl) (by kernel_rfl) (by kernel_rfl) (fun _ _ _ h => h) (Or.inl ⟨by rfl, ?_⟩) TS ?_
                  · intro w hSw
                    go_simp
                    try (intro h; exfalso; omega)
                  try simp only [Act.put, sa1, sa2, sa3]
                  refine wpAnyN_at (i := 14) (v := ptr gq (oq + i * 5)) (some 221) rfl rfl (by kernel_rfl) (by kernel_rfl) (by kernel_rfl) (by kernel_rfl) (fun _ _ _ h => h) (Or.inl ⟨by rfl, ?_⟩) TS ?_
                  · intro w hSw
                    go_simp
                    try (intro h; exfalso; omega)
                  try simp only [Act.put, sa1, sa2, sa3]
                  refine wpAnyN_at (i := 15) (v := ptr gq (oq + i * 5 + 4)) (some 222) rfl rfl (by kernel_rfl) (by kernel_rfl) (by kernel_rfl) (by kernel_rfl) (fun _ _ _ h => h) (Or.inl ⟨by rfl, ?_⟩) TS ?_
                  · intro w hSw
                    go_simp
                    try (intro h; exfalso; omega)
                  try simp only [Act.put, sa1, sa2, sa3]
                  refine wpAnyN_at (i := 16) (v := .slice lau ul.length lcu) (some 223) rfl rfl (by kernel_rfl) (by kernel_rfl) (by kernel_rfl) (by kernel_rfl) (fun _ _ _ h => h) (Or.inl ⟨by rfl, ?_⟩) TS ?_
                  · intro w hSw
                    have q0 := cell_gr u4 hSw (fun e => e)
                    have qz := World.block_lt_of_cell? _ _ q0
                    go_simp
                    try (intro h; exfalso; omega)
                  try simp only [Act.put, sa1, sa2, sa3]
                  refine wpAnyN_at (i := 17) (v := .int .i64 (ul.length : Int)) (some 224) rfl rfl (by kernel_rfl) (by kernel_rfl) (by kernel_rfl) (by kernel_rfl) (fun _ _ _ h => h) (Or.inl ⟨by rfl, ?_⟩) TS ?_
                  · intro w hSw
                    go_simp
                    try (intro h; exfalso; omega)
                  try simp only [Act.put, sa1, sa2, sa3]
                  refine wpAnyL_one (i := 18) (by kernel_rfl) rfl (fun K hK => ?_)
                  go_simp
                  refine (hbi.out _).mono ?_
                  rintro e w9 ⟨rfl, g9⟩
                  have TS : Gr (fun _ => False) wr.drew w9 := TS.trans g9
                  refine hK.out _ _ (fun _ => TS) ?_
                  clear hK K
                  try simp only [Act.put, sa1, sa2, sa3]
                  refine wpAnyN_at (i := 19) (v := .bool true) (some 226) rfl rfl (by kernel_rfl) (by kernel_rfl) (by kernel_rfl) (by kernel_rfl) (fun _ _ _ h => h) (Or.inl ⟨by rfl, ?_⟩) TS ?_
                  · intro w hSw
                    go_simp
                    try (intro h; exfalso; omega)
                  try simp only [Act.put, sa1, sa2, sa3]
                  refine wpAnyN_at (i := 20) (v := .bool true) (some 227) rfl rfl (by kernel_rfl) (by kernel_rfl) (by kernel_rfl) (by kernel_rfl) (fun _ _ _ h => h) (Or.inl ⟨by rfl, ?_⟩) TS ?_
                  · intro w hSw
                    go_simp
                    try (intro h; exfalso; omega)
                  try simp only [Act.put, sa1, sa2, sa3]
                  refine wpAnyN_at (i := 21) (v := .bool true) (some 228) rfl rfl (by kernel_rfl) (by kernel_rfl) (by kernel_rfl) (by kernel_rfl) (fun _ _ _ h => h) (Or.inl ⟨by rfl, ?_⟩) TS ?_
                  · intro w hSw
                    go_simp
                    try (intro h; exfalso; omega)
                  try simp only [Act.put, sa1, sa2, sa3]
                  refine wpAnyN_at (i := 22) (v := trv k s n (.slice ba b.length bc) (.slice la l.length lc)) (some 229) rfl rfl (by kernel_rfl) (by kernel_rfl) (by kernel_rfl) (by kernel_rfl) (fun _ _ _ h => h) (Or.inl ⟨by rfl, ?_⟩) TS ?_
                  · intro w hSw
                    have q0 := cell_gr y0 hSw (fun e => e)
                    have q1 := cell_gr y1 hSw (fun e => e)
                    have q2 := cell_gr y2 hSw (fun e => e)
                    have q3 := cell_gr y3 hSw (fun e => e)
                    have q4 := cell_gr y4 hSw (fun e => e)
                    have qz := World.block_lt_of_cell? _ _ q0
                    go_simp
                    try (intro h; exfalso; omega)
                  try simp only [Act.put, sa1, sa2, sa3]
                  refine wpAnyN_at (i := 23) (v := .slice (some ⟨gq, oq, none⟩) Q.length oc) (some 230) rfl rfl (by kernel_rfl) (by kernel_rfl) (by kernel_rfl) (by kernel_rfl) (fun _ _ _ h => h) (Or.inl ⟨by rfl, ?_⟩) TS ?_
                  · intro w hSw
                    go_simp
                    try (intro h; exfalso; omega)
                  try simp only [Act.put, sa1, sa2, sa3]
                  refine wpAnyN_at (i := 24) (v := .int .i64 (i : Int)) (some 231) rfl rfl (by kernel_rfl) (by kernel_rfl) (by kernel_rfl) (by kernel_rfl) (fun _ _ _ h => h) (Or.inl ⟨by rfl, ?_⟩) TS ?_
                  · intro w hSw
                    go_simp
                    try (intro h; exfalso; omega)
                  try simp only [Act.put, sa1, sa2, sa3]
                  refine wpAnyN_at (i := 25) (v := ptr gq (oq + i * 5)) (some 232) rfl rfl (by kernel_rfl) (by kernel_rfl) (by kernel_rfl) (by kernel_rfl) (fun _ _ _ h => h) (Or.inl ⟨by rfl, ?_⟩) TS ?_
                  · intro w hSw
                    go_simp
                    try (intro h; exfalso; omega)
                  try simp only [Act.put, sa1, sa2, sa3]
                  refine wpAnyN_at (i := 26) (v := ptr gq (oq + i * 5 + 1)) (some 233) rfl rfl (by kernel_rfl) (by kernel_rfl) (by kernel_rfl) (by kernel_rfl) (fun _ _ _ h => h) (Or.inl ⟨by rfl, ?_⟩) TS ?_
                  · intro w hSw
                    go_simp
                    try (intro h; exfalso; omega)
                  try simp only [Act.put, sa1, sa2, sa3]
                  refine wpAnyN_at (i := 27) (v := .string us) (some 234) rfl rfl (by kernel_rfl) (by kernel_rfl) (by kernel_rfl) (by kernel_rfl) (fun _ _ _ h => h) (Or.inl ⟨by rfl, ?_⟩) TS ?_
                  · intro w hSw
                    have q0 := cell_gr u1 hSw (fun e => e)
                    have qz := World.block_lt_of_cell? _ _ q0
                    go_simp
                    try (intro h; exfalso; omega)
                  try simp only [Act.put, sa1, sa2, sa3]
                  refine wpAnyN_at (i := 28) (v := .slice (some ⟨gq, oq, none⟩) Q.length oc) (some 235) rfl rfl (by kernel_rfl) (by kernel_rfl) (by kernel_rfl) (by kernel_rfl) (fun _ _ _ h => h) (Or.inl ⟨by rfl, ?_⟩) TS ?_
                  · intro w hSw
                    go_simp
                    try (intro h; exfalso; omega)
                  try simp only [Act.put, sa1, sa2, sa3]
                  refine wpAnyN_at (i := 29) (v := .int .i64 (i : Int)) (some 236) rfl rfl (by kernel_rfl) (by kernel_rfl) (by kernel_rfl) (by kernel_rfl) (fun _ _ _ h => h) (Or.inl ⟨by rfl, ?_⟩) TS ?_
                  · intro w hSw
                    go_simp
                    try (intro h; exfalso; omega)
                  try simp only [Act.put, sa1, sa2, sa3]
                  refine wpAnyN_at (i := 30) (v := ptr gq (oq + i * 5)) (some 237) rfl rfl (by kernel_rfl) (by kernel_rfl) (by kernel_rfl) (by kernel_rfl) (fun _ _ _ h => h) (Or.inl ⟨by rfl, ?_⟩) TS ?_
                  · intro w hSw
                    go_simp
                    try (intro h; exfalso; omega)
                  try simp only [Act.put, sa1, sa2, sa3]
                  refine wpAnyN_at (i := 31) (v := ptr gq (oq + i * 5 + 4)) (some 238) rfl rfl (by kernel_rfl) (by kernel_rfl) (by kernel_rfl) (by kernel_rfl) (fun _ _ _ h => h) (Or.inl ⟨by rfl, ?_⟩) TS ?_
                  · intro w hSw
                    go_simp
                    try (intro h; exfalso; omega)
                  try simp only [Act.put, sa1, sa2, sa3]
                  refine wpAnyN_at (i := 32) (v := .slice lau ul.length lcu) (some 239) rfl rfl (by kernel_rfl) (by kernel_rfl) (by kernel_rfl) (by kernel_rfl) (fun _ _ _ h => h) (Or.inl ⟨by rfl, ?_⟩) TS ?_
                  · intro w hSw
                    have q0 := cell_gr u4 hSw (fun e => e)
                    have qz := World.block_lt_of_cell? _ _ q0
                    go_simp
                    try (intro h; exfalso; omega)
                  try simp only [Act.put, sa1, sa2, sa3]
                  refine wpAnyN_at (i := 33) (v := .int .i64 (ul.length : Int)) (some 240) rfl rfl (by kernel_rfl) (by kernel_rfl) (by kernel_rfl) (by kernel_rfl) (fun _ _ _ h => h) (Or.inl ⟨by rfl, ?_⟩) TS ?_
                  · intro w hSw
                    go_simp
                    try (intro h; exfalso; omega)
                  try simp only [Act.put, sa1, sa2, sa3]
                  refine wpAnyL_one (i := 34) (by kernel_rfl) rfl (fun K hK => ?_)
                  go_simp
                  refine (hth.out _ TS).mono ?_
                  rintro e wA ⟨rfl, gA'⟩
                  have TS : Gr (fun _ => False) wr.drew wA := TS.trans gA'
                  refine hK.out _ _ (fun _ => TS) ?_
                  clear hK K
                  try simp only [Act.put, sa1, sa2, sa3]
                  refine wpAnyN_at (i := 35) (v := .bool false) (some 242) rfl rfl (by kernel_rfl) (by kernel_rfl) (by kernel_rfl) (by kernel_rfl) (fun _ _ _ h => h) (Or.inl ⟨by rfl, ?_⟩) TS ?_
                  · intro w hSw
                    go_simp
                    try (intro h; exfalso; omega)
                  try simp only [Act.put, sa1, sa2, sa3]
                  refine wpAnyN_at (i := 36) (v := .bool false) (some 243) rfl rfl (by kernel_rfl) (by kernel_rfl) (by kernel_rfl) (by kernel_rfl) (fun _ _ _ h => h) (Or.inl ⟨by rfl, ?_⟩) TS ?_
                  · intro w hSw
                    go_simp
                    try (intro h; exfalso; omega)
                  try simp only [Act.put, sa1, sa2, sa3]
                  refine wpAnyL_done (by kernel_rfl) ?_ _
                  refine NoPanic.normal ?_
                  have hGx := Lib.hid (hGd.out.trans TS)
                  clear TS
                  go_wp2_with fail
                  have hlt' := hlt.out
                  exact ⟨⟨i + 1, by omega, by go_num, hn2, hGx.out⟩, by simp [intOf]; omega⟩
                 | false =>
                  have hr := Lib.hid (hR175.out (by simp))
                  clear hR175 hgo
                  go_wp2_with fail
                  have TS : Gr (fun _ => False) wr.drew wr.drew := Gr.refl _ _
                  refine wp_region_L (L := 100) (T := fun w => Gr (fun _ => False) wr.drew w) (by kernel_rfl) ?_
                  refine wpAnyN_at (i := 0) (v := .slice (some ⟨gq, oq, none⟩) Q.length oc) (some 207) rfl rfl (by kernel_rfl) (by kernel_rfl) (by kernel_rfl) (by kernel_rfl) (fun _ _ _ h => h) (Or.inl ⟨by rfl, ?_⟩) TS ?_
                  · intro w hSw
                    go_simp
                    try (intro h; exfalso; omega)
                  try simp only [Act.put, sa1, sa2, sa3]
                  refine wpAnyN_at (i := 1) (v := .int .i64 (i : Int)) (some 208) rfl rfl (by kernel_rfl) (by kernel_rfl) (by kernel_rfl) (by kernel_rfl) (fun _ _ _ h => h) (Or.inl ⟨by rfl, ?_⟩) TS ?_
                  · intro w hSw
                    go_simp
                    try (intro h; exfalso; omega)
                  try simp only [Act.put, sa1, sa2, sa3]
                  refine wpAnyN_at (i := 2) (v := ptr gq (oq + i * 5)) (some 209) rfl rfl (by kernel_rfl) (by kernel_rfl) (by kernel_rfl) (by kernel_rfl) (fun _ _ _ h => h) (Or.inl ⟨by rfl, ?_⟩) TS ?_
                  · intro w hSw
                    go_simp
                    try (intro h; exfalso; omega)
                  try simp only [Act.put, sa1, sa2, sa3]
                  refine wpAnyN_at (i := 3) (v := ptr gq (oq + i * 5)) (some 210) rfl rfl (by kernel_rfl) (by kernel_rfl) (by kernel_rfl) (by kernel_rfl) (fun _ _ _ h => h) (Or.inl ⟨by rfl, ?_⟩) TS ?_
                  · intro w hSw
                    go_simp
                    try (intro h; exfalso; omega)
                  try simp only [Act.put, sa1, sa2, sa3]
                  refine wpAnyN_at (i := 4) (v := .int .i64 uk) (some 211) rfl rfl (by kernel_rfl) (by kernel_rfl) (by kernel_rfl) (by kernel_rfl) (fun _ _ _ h => h) (Or.inl ⟨by rfl, ?_⟩) TS ?_
                  · intro w hSw
                    have q0 := cell_gr u0 hSw (fun e => e)
                    have qz := World.block_lt_of_cell? _ _ q0
                    go_simp
                    try (intro h; exfalso; omega)
                  try simp only [Act.put, sa1, sa2, sa3]
                  refine wpAnyN_at (i := 5) (v := .bool true) (some 212) rfl rfl (by kernel_rfl) (by kernel_rfl) (by kernel_rfl) (by kernel_rfl) (fun _ _ _ h => h) (Or.inl ⟨by rfl, ?_⟩) TS ?_
                  · intro w hSw
                    go_simp
                    try (intro h; exfalso; omega)
                  try simp only [Act.put, sa1, sa2, sa3]
                  refine wpAnyN_at (i := 6) (v := .bool true) (some 213) rfl rfl (by kernel_rfl) (by kernel_rfl) (by kernel_rfl) (by kernel_rfl) (fun _ _ _ h => h) (Or.inl ⟨by rfl, ?_⟩) TS ?_
                  · intro w hSw
                    go_simp
                    try (intro h; exfalso; omega)
                  try simp only [Act.put, sa1, sa2, sa3]
                  refine wpAnyN_at (i := 7) (v := .slice (some ⟨gq, oq, none⟩) Q.length oc) (some 214) rfl rfl (by kernel_rfl) (by kernel_rfl) (by kernel_rfl) (by kernel_rfl) (fun _ _ _ h => h) (Or.inl ⟨by rfl, ?_⟩) TS ?_
                  · intro w hSw
                    go_simp
                    try (intro h; exfalso; omega)
                  try simp only [Act.put, sa1, sa2, sa3]
                  refine wpAnyN_at (i := 8) (v := .int .i64 (i : Int)) (some 215) rfl rfl (by kernel_rfl) (by kernel_rfl) (by kernel_rfl) (by kernel_rfl) (fun _ _ _ h => h) (Or.inl ⟨by rfl, ?_⟩) TS ?_
                  · intro w hSw
                    go_simp
                    try (intro h; exfalso; omega)
                  try simp only [Act.put, sa1, sa2, sa3]
                  refine wpAnyN_at (i := 9) (v := ptr gq (oq + i * 5)) (some 216) rfl rfl (by kernel_rfl) (by kernel_rfl) (by kernel_rfl) (by kernel_rfl) (fun _ _ _ h => h) (Or.inl ⟨by rfl, ?_⟩) TS ?_
                  · intro w hSw
                    go_simp
                    try (intro h; exfalso; omega)
                  try simp only [Act.put, sa1, sa2, sa3]
                  refine wpAnyN_at (i := 10) (v := ptr gq (oq + i * 5 + 1)) (some 217) rfl rfl (by kernel_rfl) (by kernel_rfl) (by kernel_rfl) (by kernel_rfl) (fun _ _ _ h => h) (Or.inl ⟨by rfl, ?_⟩) TS ?_
                  · intro w hSw
                    go_simp
                    try (intro h; exfalso; omega)
                  try simp only [Act.put, sa1, sa2, sa3]
                  refine wpAnyN_at (i := 11) (v := .string us) (some 218) rfl rfl (by kernel_rfl) (by kernel_rfl) (by kernel_rfl) (by kernel_rfl) (fun _ _ _ h => h) (Or.inl ⟨by rfl, ?_⟩) TS ?_
                  · intro w hSw
                    have q0 := cell_gr u1 hSw (fun e => e)
                    have qz := World.block_lt_of_cell? _ _ q0
                    go_simp
                    try (intro h; exfalso; omega)
                  try simp only [Act.put, sa1, sa2, sa3]
                  refine wpAnyN_at (i := 12) (v := .slice (some ⟨gq, oq, none⟩) Q.length oc) (some 219) rfl rfl (by kernel_rfl) (by kernel_rfl) (by kernel_rfl) (by kernel_rfl) (fun _ _ _ h => h) (Or.inl ⟨by rfl, ?_⟩) TS ?_
                  · intro w hSw
                    go_simp
                    try (intro h; exfalso; omega)
                  try simp only [Act.put, sa1, sa2, sa3]
                  refine wpAnyN_at (i := 13) (v := .int .i64 (i : Int)) (some 220) rfl rfl (by kernel_rfl) (by kernel_rfl) (by kernel_rfl) (by kernel_rfl) (fun _ _ _ h => h) (Or.inl ⟨by rfl, ?_⟩) TS ?_
                  · intro w hSw
                    go_simp
                    try (intro h; exfalso; omega)
                  try simp only [Act.put, sa1, sa2, sa3]
                  refine wpAnyN_at (i := 14) (v := ptr gq (oq + i * 5)) (some 221) rfl rfl (by kernel_rfl) (by kernel_rfl) (by kernel_rfl) (by kernel_rfl) (fun _ _ _ h => h) (Or.inl ⟨by rfl, ?_⟩) TS ?_
                  · intro w hSw
                    go_simp
                    try (intro h; exfalso; omega)
                  try simp only [Act.put, sa1, sa2, sa3]
                  refine wpAnyN_at (i := 15) (v := ptr gq (oq + i * 5 + 4)) (some 222) rfl rfl (by kernel_rfl) (by kernel_rfl) (by kernel_rfl) (by kernel_rfl) (fun _ _ _ h => h) (Or.inl ⟨by rfl, ?_⟩) TS ?_
                  · intro w hSw
                    go_simp
                    try (intro h; exfalso; omega)
                  try simp only [Act.put, sa1, sa2, sa3]
                  refine wpAnyN_at (i := 16) (v := .slice lau ul.length lcu) (some 223) rfl rfl (by kernel_rfl) (by kernel_rfl) (by kernel_rfl) (by kernel_rfl) (fun _ _ _ h => h) (Or.inl ⟨by rfl, ?_⟩) TS ?_
                  · intro w hSw
                    have q0 := cell_gr u4 hSw (fun e => e)
                    have qz := World.block_lt_of_cell? _ _ q0
                    go_simp
                    try (intro h; exfalso; omega)
                  try simp only [Act.put, sa1, sa2, sa3]
                  refine wpAnyN_at (i := 17) (v := .int .i64 (ul.length : Int)) (some 224) rfl rfl (by kernel_rfl) (by kernel_rfl) (by kernel_rfl) (by kernel_rfl) (fun _ _ _ h => h) (Or.inl ⟨by rfl, ?_⟩) TS ?_
                  · intro w hSw
                    go_simp
                    try (intro h; exfalso; omega)
                  try simp only [Act.put, sa1, sa2, sa3]
                  refine wpAnyL_one (i := 18) (by kernel_rfl) rfl (fun K hK => ?_)
                  go_simp
                  refine (hbi.out _).mono ?_
                  rintro e w9 ⟨rfl, g9⟩
                  have TS : Gr (fun _ => False) wr.drew w9 := TS.trans g9
                  refine hK.out _ _ (fun _ => TS) ?_
                  clear hK K
                  try simp only [Act.put, sa1, sa2, sa3]
                  refine wpAnyN_at (i := 19) (v := .bool true) (some 226) rfl rfl (by kernel_rfl) (by kernel_rfl) (by kernel_rfl) (by kernel_rfl) (fun _ _ _ h => h) (Or.inl ⟨by rfl, ?_⟩) TS ?_
                  · intro w hSw
                    go_simp
                    try (intro h; exfalso; omega)
                  try simp only [Act.put, sa1, sa2, sa3]
                  refine wpAnyN_at (i := 20) (v := .bool true) (some 227) rfl rfl (by kernel_rfl) (by kernel_rfl) (by kernel_rfl) (by kernel_rfl) (fun _ _ _ h => h) (Or.inl ⟨by rfl, ?_⟩) TS ?_
                  · intro w hSw
                    go_simp
                    try (intro h; exfalso; omega)
                  try simp only [Act.put, sa1, sa2, sa3]
                  refine wpAnyN_at (i := 21) (v := .bool true) (some 228) rfl rfl (by kernel_rfl) (by kernel_rfl) (by kernel_rfl) (by kernel_rfl) (fun _ _ _ h => h) (Or.inl ⟨by rfl, ?_⟩) TS ?_
                  · intro w hSw
                    go_simp
                    try (intro h; exfalso; omega)
                  try simp only [Act.put, sa1, sa2, sa3]
                  refine wpAnyN_at (i := 22) (v := trv k s n (.slice ba b.length bc) (.slice la l.length lc)) (some 229) rfl rfl (by kernel_rfl) (by kernel_rfl) (by kernel_rfl) (by kernel_rfl) (fun _ _ _ h => h) (Or.inl ⟨by rfl, ?_⟩) TS ?_
                  · intro w hSw
                    have q0 := cell_gr y0 hSw (fun e => e)
                    have q1 := cell_gr y1 hSw (fun e => e)
                    have q2 := cell_gr y2 hSw (fun e => e)
                    have q3 := cell_gr y3 hSw (fun e => e)
                    have q4 := cell_gr y4 hSw (fun e => e)
                    have qz := World.block_lt_of_cell? _ _ q0
                    go_simp
                    try (intro h; exfalso; omega)
                  try simp only [Act.put, sa1, sa2, sa3]
                  refine wpAnyN_at (i := 23) (v := .slice (some ⟨gq, oq, none⟩) Q.length oc) (some 230) rfl rfl (by kernel_rfl) (by kernel_rfl) (by kernel_rfl) (by kernel_rfl) (fun _ _ _ h => h) (Or.inl ⟨by rfl, ?_⟩) TS ?_
                  · intro w hSw
                    go_simp
                    try (intro h; exfalso; omega)
                  try simp only [Act.put, sa1, sa2, sa3]
                  refine wpAnyN_at (i := 24) (v := .int .i64 (i : Int)) (some 231) rfl rfl (by kernel_rfl) (by kernel_rfl) (by kernel_rfl) (by kernel_rfl) (fun _ _ _ h => h) (Or.inl ⟨by rfl, ?_⟩) TS ?_
                  · intro w hSw
                    go_simp
                    try (intro h; exfalso; omega)
                  try simp only [Act.put, sa1, sa2, sa3]
                  refine wpAnyN_at (i := 25) (v := ptr gq (oq + i * 5)) (some 232) rfl rfl (by kernel_rfl) (by kernel_rfl) (by kernel_rfl) (by kernel_rfl) (fun _ _ _ h => h) (Or.inl ⟨by rfl, ?_⟩) TS ?_
                  · intro w hSw
                    go_simp
                    try (intro h; exfalso; omega)
                  try simp only [Act.put, sa1, sa2, sa3]
                  refine wpAnyN_at (i := 26) (v := ptr gq (oq + i * 5 + 1)) (some 233) rfl rfl (by kernel_rfl) (by kernel_rfl) (by kernel_rfl) (by kernel_rfl) (fun _ _ _ h => h) (Or.inl ⟨by rfl, ?_⟩) TS ?_
                  · intro w hSw
                    go_simp
                    try (intro h; exfalso; omega)
                  try simp only [Act.put, sa1, sa2, sa3]
                  refine wpAnyN_at (i := 27) (v := .string us) (some 234) rfl rfl (by kernel_rfl) (by kernel_rfl) (by kernel_rfl) (by kernel_rfl) (fun _ _ _ h => h) (Or.inl ⟨by rfl, ?_⟩) TS ?_
                  · intro w hSw
                    have q0 := cell_gr u1 hSw (fun e => e)
                    have qz := World.block_lt_of_cell? _ _ q0
                    go_simp
                    try (intro h; exfalso; omega)
                  try simp only [Act.put, sa1, sa2, sa3]
                  refine wpAnyN_at (i := 28) (v := .slice (some ⟨gq, oq, none⟩) Q.length oc) (some 235) rfl rfl (by kernel_rfl) (by kernel_rfl) (by kernel_rfl) (by kernel_rfl) (fun _ _ _ h => h) (Or.inl ⟨by rfl, ?_⟩) TS ?_
                  · intro w hSw
                    go_simp
                    try (intro h; exfalso; omega)
                  try simp only [Act.put, sa1, sa2, sa3]
                  refine wpAnyN_at (i := 29) (v := .int .i64 (i : Int)) (some 236) rfl rfl (by kernel_rfl) (by kernel_rfl) (by kernel_rfl) (by kernel_rfl) (fun _ _ _ h => h) (Or.inl ⟨by rfl, ?_⟩) TS ?_
                  · intro w hSw
                    go_simp
                    try (intro h; exfalso; omega)
                  try simp only [Act.put, sa1, sa2, sa3]
                  refine wpAnyN_at (i := 30) (v := ptr gq (oq + i * 5)) (some 237) rfl rfl (by kernel_rfl) (by kernel_rfl) (by kernel_rfl) (by kernel_rfl) (fun _ _ _ h => h) (Or.inl ⟨by rfl, ?_⟩) TS ?_
                  · intro w hSw
                    go_simp
                    try (intro h; exfalso; omega)
                  try simp only [Act.put, sa1, sa2, sa3]
                  refine wpAnyN_at (i := 31) (v := ptr gq (oq + i * 5 + 4)) (some 238) rfl rfl (by kernel_rfl) (by kernel_rfl) (by kernel_rfl) (by kernel_rfl) (fun _ _ _ h => h) (Or.inl ⟨by rfl, ?_⟩) TS ?_
                  · intro w hSw
                    go_simp
                    try (intro h; exfalso; omega)
                  try simp only [Act.put, sa1, sa2, sa3]
                  refine wpAnyN_at (i := 32) (v := .slice lau ul.length lcu) (some 239) rfl rfl (by kernel_rfl) (by kernel_rfl) (by kernel_rfl) (by kernel_rfl) (fun _ _ _ h => h) (Or.inl ⟨by rfl, ?_⟩) TS ?_
                  · intro w hSw
                    have q0 := cell_gr u4 hSw (fun e => e)
                    have qz := World.block_lt_of_cell? _ _ q0
                    go_simp
                    try (intro h; exfalso; omega)
                  try simp only [Act.put, sa1, sa2, sa3]
                  refine wpAnyN_at (i := 33) (v := .int .i64 (ul.length : Int)) (some 240) rfl rfl (by kernel_rfl) (by kernel_rfl) (by kernel_rfl) (by kernel_rfl) (fun _ _ _ h => h) (Or.inl ⟨by rfl, ?_⟩) TS ?_
                  · intro w hSw
                    go_simp
                    try (intro h; exfalso; omega)
                  try simp only [Act.put, sa1, sa2, sa3]
                  refine wpAnyL_one (i := 34) (by kernel_rfl) rfl (fun K hK => ?_)
                  go_simp
                  refine (hth.out _ TS).mono ?_
                  rintro e wA ⟨rfl, gA'⟩
                  have TS : Gr (fun _ => False) wr.drew wA := TS.trans gA'
                  refine hK.out _ _ (fun _ => TS) ?_
                  clear hK K
                  try simp only [Act.put, sa1, sa2, sa3]
                  refine wpAnyN_at (i := 35) (v := .bool true) (some 242) rfl rfl (by kernel_rfl) (by kernel_rfl) (by kernel_rfl) (by kernel_rfl) (fun _ _ _ h => h) (Or.inl ⟨by rfl, ?_⟩) TS ?_
                  · intro w hSw
                    go_simp
                    try (intro h; exfalso; omega)
                  try simp only [Act.put, sa1, sa2, sa3]
                  refine wpAnyN_at (i := 36) (v := .bool true) (some 243) rfl rfl (by kernel_rfl) (by kernel_rfl) (by kernel_rfl) (by kernel_rfl) (fun _ _ _ h => h) (Or.inl ⟨by rfl, ?_⟩) TS ?_
                  · intro w hSw
                    go_simp
                    try (intro h; exfalso; omega)
                  try simp only [Act.put, sa1, sa2, sa3]
                  refine wpAnyL_done (by kernel_rfl) ?_ _
                  refine NoPanic.normal ?_
                  have hGx := Lib.hid (hGd.out.trans TS)
                  clear TS
                  go_wp2_with fail
                  go_ret
                  exact ⟨by rw [hc.out, hr.out]; rfl, hGW.out.trans hGx.out⟩
              ·
               have hd : decide ((i : Int) < (Q.length : Int)) = false := by simp; omega
               have hie : i = Q.length := by omega
               have hnone : Hid (Q.any (caR l) = false) := by
                have := hno.out
                rw [hie, List.take_length] at this
                exact this
               clear hie hno hd
               replace hc : Hid (R1 = R8) := by
                show _ = _
                rw [hc.out, h7.out]; unfold rf7; rw [if_neg (by rw [hnone.out]; decide)]
               clear hnone h7
               have y0 := cell_gr hck.out.x0 hG (fun e => e)
               have y1 := cell_gr hck.out.x1 hG (fun e => e)
               have y2 := cell_gr hck.out.x2 hG (fun e => e)
               have y3 := cell_gr hck.out.x3 hG (fun e => e)
               have y4 := cell_gr hck.out.x4 hG (fun e => e)
               have htl := World.block_lt_of_cell? _ _ y0
               have hth := Lib.hid (rthere_c w1.heap.size wr k s n _ ⟨ba, b.length, bc, rfl⟩ la lc l mainB 0 (hck.out.rowl.g0 hG) hG.size (by have := hll.out; omega) (fun X hX => by
                obtain ⟨jx, hjx, e⟩ := List.getElem_of_mem hX
                have h8 := hlsub.out jx X (by rw [← e]; exact List.getElem?_eq_getElem hjx)
                have h9 := l_le X
                have := (hsub.out _ h8).2.1
                have := hlen.out
                omega))
               have hr8 : Hid (R1 = if l.any (thT mainB 0) = true then 0 else 176) := by
                show _ = _
                rw [hc.out, h8.out]; rfl
               generalize l.any (thT mainB 0) = th at hth hr8
               clear hc h8
               cases th with
               | true =>
                have hr := Lib.hid (show R1 = 0 from hr8.out)
                clear hr8
                go_wp2_with fail
                refine hth.out.mono ?_
                rintro e w9 ⟨rfl, g9⟩
                go_wp2_with fail
                go_ret
                exact ⟨by rw [hr.out]; rfl, (hGW.out.trans hG).trans g9⟩
               | false =>
                have hr := Lib.hid (show R1 = 176 from hr8.out)
                clear hr8
                go_wp2_with fail
                refine hth.out.mono ?_
                rintro e w9 ⟨rfl, g9⟩
                go_wp2_with fail
                go_ret
                exact ⟨by rw [hr.out]; rfl, (hGW.out.trans hG).trans g9⟩
end Go.Proofs.YtjedbfbolifjjaaGreatDoor
