/-
  Check of any tree: the passes, one after the other.
  Check of any tree.
  A text's tree (the law's tree); has a text this error (the law's is).
-/
import Derived.Test.YtjedbfbolifjjaaGreatDoorMD
import Derived.Test.YtjedbfbolifjjaaGreatDoorKZ
import Derived.Test.YtjedbfbolifjjaaGreatDoorGN
set_option linter.unusedVariables false
set_option linter.unusedSimpArgs false
namespace Go.Proofs.YtjedbfbolifjjaaGreatDoor
open Go.RowKit Go.Maps
variable {W W' : World}
theorem some_e (W : World) (n u : Nat) : Calls Tryz.prog 40 #[.func (.func n) #[] #[], ptr u 0] W fun e w' => ∃ v, e = .returned (.func (.func 41) #[] #[ptr u 0, ptr v 0]) ∧ w'.cell? ⟨v, 0, none⟩ = some (.func (.func n) #[] #[]) ∧ Gr (fun _ => False) W w' :=
 (some_c W n u).mono fun e w' ⟨h1, h2⟩ => ⟨_, h1, by rw [h2]; exact cell_one _ _ _, by rw [h2]; exact Gr.alloc _ _ _⟩
abbrev fv (n : Nat) (c : Array Value) : Value := .func (.func n) #[] c
abbrev pcs (u v3 v5 v6 v7 : Nat) : Array Value := #[.int .i64 170, fv 43 #[ptr u 0], .int .i64 177, fv 45 #[ptr u 0], .int .i64 170, fv 41 #[ptr u 0, ptr v3 0], .int .i64 171, fv 48 #[ptr u 0], .int .i64 172, fv 41 #[ptr u 0, ptr v5 0], .int .i64 173, fv 41 #[ptr u 0, ptr v6 0], .int .i64 174, fv 41 #[ptr u 0, ptr v7 0], .int .i64 175, fv 54 #[ptr u 0], .int .i64 176, fv 56 #[ptr u 0]]
set_option maxRecDepth 100000 in
set_option maxHeartbeats 3200000 in
theorem passes_c (W : World) (g o : Nat) : Calls Tryz.prog 26 #[ptr g o] W fun e w' => ∃ u v3 v5 v6 v7 pb, e = .returned (.slice (some ⟨pb, 0, none⟩) 9 9) ∧ (∃ t, w'.heap[pb]? = some (.cells (pcs u v3 v5 v6 v7) t (0, 0))) ∧ w'.cell? ⟨u, 0, none⟩ = some (ptr g o) ∧ w'.cell? ⟨v3, 0, none⟩ = some (fv 47 #[]) ∧ w'.cell? ⟨v5, 0, none⟩ = some (fv 51 #[]) ∧ w'.cell? ⟨v6, 0, none⟩ = some (fv 52 #[]) ∧ w'.cell? ⟨v7, 0, none⟩ = some (fv 53 #[]) ∧ Gr (fun _ => False) W w' := by
 have c0 := cell_one W (ptr g o) 48
 have g0 := Gr.alloc W (.cells #[ptr g o] 48) (fun _ => False)
 obtain ⟨u, hu⟩ : ∃ u, W.heap.size = u := ⟨_, rfl⟩
 have s1 := Lib.hid (fun w n => some_e w n u)
 rw [hu] at c0
 replace c0 := Lib.hid c0
 replace g0 := Lib.hid g0
 go_enter Tryz.func26, Tryz.ntmps26
 go_wp2_with fail
 try rw [hu]
 generalize W.alloc (.cells #[ptr g o] 48) = W1 at *
 clear hu
 refine (s1.out W1 47).mono ?_
 rintro e w3 ⟨v3, rfl, c3, g3⟩
 replace c3 := Lib.hid c3
 have g3a := g3
 replace g3 := Lib.hid (g0.out.trans g3)
 go_wp2_with fail
 refine (s1.out w3 51).mono ?_
 rintro e w5 ⟨v5, rfl, c5, g5⟩
 replace c5 := Lib.hid c5
 replace g5 := Lib.hid g5
 go_wp2_with fail
 refine (s1.out w5 52).mono ?_
 rintro e w6 ⟨v6, rfl, c6, g6⟩
 replace c6 := Lib.hid c6
 replace g6 := Lib.hid g6
 go_wp2_with fail
 refine (s1.out w6 53).mono ?_
 rintro e w7 ⟨v7, rfl, c7, g7⟩
 replace c7 := Lib.hid c7
 replace g7 := Lib.hid g7
 go_wp2_with fail
 go_ret
 have gN := Gr.alloc w7 (.cells (pcs u v3 v5 v6 v7) 50) (fun _ => False)
 have g67 := g7.out.trans gN
 have g57 := g6.out.trans g67
 have g37 := g5.out.trans g57
 exact ⟨u, v3, v5, v6, v7, w7.heap.size, rfl, ⟨50, heap_alloc_new w7 _⟩, cell_gr (cell_gr c0.out g3a (fun e => e)) g37 (fun e => e), cell_gr c3.out g37 (fun e => e), cell_gr c5.out g57 (fun e => e), cell_gr c6.out g67 (fun e => e), cell_gr c7.out gN (fun e => e), g3.out.trans g37⟩
/-- Passes as rows: the error, the function and what it has caught, its answer. -/
abbrev Ps1 : Type := Int × Nat × Array Value × Bool
def fstE : List Ps1 → Int
 | [] => 0
 | (e, _, _, b) :: r => if b = true then e else fstE r
theorem fstE_hit : ∀ (l : List Ps1) (i : Nat) (e : Int) (n : Nat) (c : Array Value), l[i]? = some (e, n, c, true) → (∀ (j : Nat) (y : Ps1), j < i → l[j]? = some y → y.2.2.2 = false) → fstE l = e
 | [], i, _, _, _, h, _ => by simp at h
 | (e', n', c', b') :: r, 0, e, n, c, h, _ => by
  simp only [List.getElem?_cons_zero, Option.some.injEq, Prod.mk.injEq] at h
  obtain ⟨rfl, rfl, rfl, rfl⟩ := h
  rfl
 | (e', n', c', b') :: r, i + 1, e, n, c, h, hf => by
  have h0 : b' = false := hf 0 _ (by omega) rfl
  subst h0
  show fstE r = e
  exact fstE_hit r i e n c (by simpa using h) (fun j y hj hy => hf (j + 1) y (by omega) (by simpa using hy))
theorem fstE_none : ∀ (l : List Ps1), (∀ (j : Nat) (y : Ps1), j < l.length → l[j]? = some y → y.2.2.2 = false) → fstE l = 0
 | [], _ => rfl
 | (e', n', c', b') :: r, hf => by
  have h0 : b' = false := hf 0 _ (by simp) rfl
  subst h0
  show fstE r = 0
  exact fstE_none r (fun j y hj hy => hf (j + 1) y (by simp; omega) (by simpa using hy))
/-- The passes of a call, in memory, with what each answers. -/
structure Psd (W : World) (pb : Nat) (l : List Ps1) : Prop where
 len : l.length = 9
 cells : ∀ i e n c b, l[i]? = some (e, n, c, b) → W.cell? ⟨pb, i * 2, none⟩ = some (.int .i64 e) ∧ W.cell? ⟨pb, i * 2 + 1, none⟩ = some (fv n c)
 asks : ∀ i e n c b, l[i]? = some (e, n, c, b) → (∀ (j : Nat) (y : Ps1), j < i → l[j]? = some y → y.2.2.2 = false) → Ent n ∧ ∀ w, Gr (fun _ => False) W w → Calls Tryz.prog n c w fun x w' => x = .returned (.bool b) ∧ Gr (fun _ => False) w w'
set_option maxRecDepth 100000 in
set_option maxHeartbeats 3200000 in
theorem check_walk (W : World) (x0 : Int) (x1 : ByteArray) (x2 : Int) (a1 : Option Addr) (n1 c1 : Nat) (a2 : Option Addr) (n2 c2 : Nat) (r : Int)
 (hp : Calls Tryz.prog 26 #[ptr W.heap.size 0] (W.alloc (.cells #[.int .i64 x0, .string x1, .int .i64 x2, .slice a1 n1 c1, .slice a2 n2 c2] 25)) fun e w' => ∃ pb l, e = .returned (.slice (some ⟨pb, 0, none⟩) 9 9) ∧ Psd w' pb l ∧ fstE l = r ∧ Gr (fun _ => False) W w') :
 Calls Tryz.prog 11 #[trv x0 x1 x2 (.slice a1 n1 c1) (.slice a2 n2 c2)] W fun e w' => e = .returned (.int .i64 r) ∧ Gr (fun _ => False) W w' := by
 replace hp := Lib.hid hp
 go_enter Tryz.func11, Tryz.ntmps11
 go_wp2_with fail
 refine hp.out.mono ?_
 rintro e w1 ⟨pb, l, rfl, hP, hr, g1⟩
 have hpb : pb < w1.heap.size := by
  obtain ⟨⟨e, n, c, b⟩, h0⟩ : ∃ x, l[0]? = some x := ⟨_, List.getElem?_eq_getElem (by have := hP.len; omega)⟩
  exact World.block_lt_of_cell? _ _ (hP.cells 0 e n c b h0).1
 replace hP := Lib.hid hP
 replace hr := Lib.hid hr
 clear hp
 go_wp2_with fail
 go_loopw [7] (fun u wr => ∃ i : Nat, i ≤ 9 ∧ u = .int .i64 (i : Int) ∧ Hid (∀ (j : Nat) (y : Ps1), j < i → l[j]? = some y → y.2.2.2 = false) ∧ Gr (fun _ => False) w1 wr) (fun u _ => 9 - (intOf u).toNat)
 case atStart => exact ⟨0, Nat.zero_le _, rfl, fun j y hj _ => absurd hj (by omega), Gr.refl _ _⟩
 case round =>
  obtain ⟨i, hi, rfl, hno, hG⟩ := hrel
  by_cases hlt : i < 9
  ·
   have hd : decide ((i : Int) < 9) = true := by simp; omega
   obtain ⟨⟨e, n, c, b⟩, hx⟩ : ∃ x, l[i]? = some x := ⟨_, List.getElem?_eq_getElem (by have := hP.out.len; omega)⟩
   obtain ⟨k0, k1⟩ := hP.out.cells i e n c b hx
   obtain ⟨hE, hc⟩ := hP.out.asks i e n c b hx hno.out
   have z0 := cell_gr k0 hG (fun e => e)
   have z1 := cell_gr k1 hG (fun e => e)
   have hpw : pb < wr.heap.size := by have := hG.size; omega
   have gA := Gr.alloc wr (.cells #[.int .i64 e, fv n c] 50) (fun _ => False)
   obtain ⟨m0, m1⟩ := two_cells (heap_alloc_new wr (.cells #[.int .i64 e, fv n c] 50))
   have hc' := Lib.hid (hc _ (hG.trans gA))
   have hiI : (i : Int) < 9 := by omega
   replace hx := Lib.hid hx
   clear k0 k1 hc
   cases b with
   | true =>
    have er : Hid (r = e) := hr.out.symm.trans (fstE_hit l i e n c hx.out hno.out)
    go_wp2_with fail
    rw [hE, Oper.upon_enter]
    refine hc'.out.mono ?_
    rintro e4 w4 ⟨rfl, g4⟩
    have m0' := cell_gr m0 g4 (fun e => e)
    have hs4 := g4.size
    go_wp2_with fail
    go_ret
    exact ⟨by rw [er.out]; rfl, (g1.trans hG).trans (gA.trans g4)⟩
   | false =>
    have hno' : Hid (∀ (j : Nat) (y : Ps1), j < i + 1 → l[j]? = some y → y.2.2.2 = false) := fun j y hj hy => by
     rcases Nat.lt_succ_iff_lt_or_eq.1 hj with h | rfl
     · exact hno.out j y h hy
     · rw [hx.out] at hy; cases hy; rfl
    go_wp2_with fail
    rw [hE, Oper.upon_enter]
    refine hc'.out.mono ?_
    rintro e4 w4 ⟨rfl, g4⟩
    go_wp2_with fail
    exact ⟨⟨i + 1, hlt, by go_num, hno', hG.trans (gA.trans g4)⟩, by simp [intOf]; omega⟩
  · have hd : decide ((i : Int) < 9) = false := by simp; omega
    obtain rfl : i = 9 := by omega
    have er : Hid (r = 0) := hr.out.symm.trans (fstE_none l (fun j y hj hy => hno.out j y (by have := hP.out.len; omega) hy))
    go_wp2_with fail
    go_ret
    exact ⟨by rw [er.out]; rfl, g1.trans hG⟩
end Go.Proofs.YtjedbfbolifjjaaGreatDoor

namespace Go.Proofs.YtjedbfbolifjjaaGreatDoor
open Go.RowKit Go.Maps
variable {W W' : World}
/-- A part's parts lie together among all parts. -/
theorem pre_sub (T : Tr) : ∀ U ∈ preL [T], ∃ p q, preL [T] = p ++ (preL [U] ++ q) :=
 Tr.rec (motive_1 := fun T => ∀ U ∈ preL [T], ∃ p q, preL [T] = p ++ (preL [U] ++ q)) (motive_2 := fun l => ∀ U ∈ preL l, ∃ p q, preL l = p ++ (preL [U] ++ q))
  (fun k s n b l ih U hU => by
    rw [preL_cons, preL_nil, List.append_nil] at hU
    rcases List.mem_cons.1 hU with rfl | hU
    · exact ⟨[], [], by simp⟩
    · obtain ⟨p, q, e⟩ := ih U hU
      refine ⟨.mk k s n b l :: p, q, ?_⟩
      rw [preL_cons, preL_nil, List.append_nil, e]; rfl)
  (fun U hU => by rw [preL_nil] at hU; cases hU)
  (fun T l h1 h2 U hU => by
    have e : preL (T :: l) = preL [T] ++ preL l := preL_app [T] l
    rw [e] at hU
    rcases List.mem_append.1 hU with hU | hU
    · obtain ⟨p, q, e1⟩ := h1 U hU
      exact ⟨p, q ++ preL l, by rw [e, e1]; simp⟩
    · obtain ⟨p, q, e1⟩ := h2 U hU
      exact ⟨preL [T] ++ p, q, by rw [e, e1]; simp⟩) T
theorem pre_in {T U V : Tr} (hU : U ∈ preL [T]) (hV : V ∈ preL [U]) : V ∈ preL [T] := by
 obtain ⟨p, q, e⟩ := pre_sub T U hU
 rw [e]; simp [hV]
theorem pre_le {T U : Tr} (hU : U ∈ preL [T]) : (preL [U]).length ≤ (preL [T]).length := by
 obtain ⟨p, q, e⟩ := pre_sub T U hU
 rw [e]; simp; omega
theorem self_pre (T : Tr) : T ∈ preL [T] := by obtain ⟨k, s, n, b, l⟩ := T; rw [preL_cons]; simp
theorem l_le (T : Tr) : T.l.length + 1 ≤ (preL [T]).length := by
 obtain ⟨k, s, n, b, l⟩ := T
 have := preL_len l
 rw [preL_cons, preL_nil, List.append_nil, List.length_cons]
 dsimp only; omega
theorem Szs.sub {T U : Tr} (h : Szs [T]) (hU : U ∈ preL [T]) : Szs [U] := fun V hV => h V (pre_in hU hV)
/-- What a part of right shape has. -/
theorem mis_shape {U : Tr} (h : misV U = false) : (U.k = 17 → U.l ≠ []) ∧ ne1 U ∧ (U.k = 9 ∨ U.k = 15 ∨ U.k = 14 → ∃ P X r, U.l = P :: X :: r) := by
 obtain ⟨k, s, n, b, l⟩ := U
 have hp : partsV (.mk k s n b l) = true := by
  unfold misV at h
  cases hx : partsV (.mk k s n b l) with
  | true => rfl
  | false => rw [hx] at h; simp at h
 have two : (l.length : Int) = 2 → ∃ P X r, l = P :: X :: r := fun e => by
  match l, e with
  | [], e => simp at e
  | [_], e => simp at e
  | P :: X :: r, _ => exact ⟨P, X, r, rfl⟩
 have h17 : k = 17 → l ≠ [] := fun e hl => by
  subst e hl
  simp [partsV] at hp
 have h7 : k = 7 → l ≠ [] := fun e hl => by
  subst e hl
  simp [partsV] at hp
 have h9 : k = 9 ∨ k = 15 ∨ k = 14 → ∃ P X r, l = P :: X :: r := fun e => by
  rcases e with rfl | rfl | rfl
  all_goals
   simp [partsV] at hp
   exact two (by omega)
 refine ⟨h17, fun e => ?_, h9⟩
 rcases e with e | e | e
 · exact h7 e
 · obtain ⟨P, X, r, rfl⟩ := h9 (.inl e); simp
 · obtain ⟨P, X, r, rfl⟩ := h9 (.inr (.inl e)); simp
/-- What Check answers. -/
def chkV : Tr → Int
 | .mk k s n b l =>
  if crowdV (.mk k s n b l) = true then 170
  else if ((k != 18) || (preL [Tr.mk k s n b l]).any misV) = true then 177
  else if (preL [Tr.mk k s n b l]).any overV = true then 170
  else if (decide (((hdsL [] l).length : Int) < (l.length : Int)) || (preL [Tr.mk k s n b l]).any ptV) = true then 171
  else if (preL [Tr.mk k s n b l]).any nbV = true then 172
  else if (preL [Tr.mk k s n b l]).any pwV = true then 173
  else if (preL [Tr.mk k s n b l]).any unbV = true then 174
  else if (preL [Tr.mk k s n b l]).any (uncV (hdsL [] l)) = true then 175
  else if (!inH (hdsL [] l) (mainB, 0)) = true then 176
  else 0
theorem eighteen {pb : Nat} {u v3 v5 v6 v7 : Nat} {t : TypeId} (h : W.heap[pb]? = some (.cells (pcs u v3 v5 v6 v7) t (0, 0))) : ∀ j x, (pcs u v3 v5 v6 v7)[j]? = some x → W.cell? ⟨pb, j, none⟩ = some x := fun j x hx => by
 unfold World.cell?
 rw [h]
 exact hx
set_option maxRecDepth 100000 in
set_option maxHeartbeats 1600000 in
theorem psd_of (N : Nat) (W0 W : World) (g o : Nat) (k : Int) (s : ByteArray) (n : Int) (b : List Int) (l : List Tr) (u v3 v5 v6 v7 pb : Nat) (t : TypeId) (hc : W.heap[pb]? = some (.cells (pcs u v3 v5 v6 v7) t (0, 0))) (cu : W.cell? ⟨u, 0, none⟩ = some (ptr g o)) (c3 : W.cell? ⟨v3, 0, none⟩ = some (fv 47 #[])) (c5 : W.cell? ⟨v5, 0, none⟩ = some (fv 51 #[])) (c6 : W.cell? ⟨v6, 0, none⟩ = some (fv 52 #[])) (c7 : W.cell? ⟨v7, 0, none⟩ = some (fv 53 #[])) (hT : TAtG N W g o (.mk k s n b l)) (hg : g < N) (hN : N ≤ W.heap.size) (hs : Szs [Tr.mk k s n b l]) (hB : Bu W) :
 ∃ L, Psd W pb L ∧ fstE L = chkV (.mk k s n b l) := by
 refine ⟨[(170, 43, #[ptr u 0], crowdV (.mk k s n b l)), (177, 45, #[ptr u 0], (k != 18) || (preL [Tr.mk k s n b l]).any misV), (170, 41, #[ptr u 0, ptr v3 0], (preL [Tr.mk k s n b l]).any overV),
  (171, 48, #[ptr u 0], decide (((hdsL [] l).length : Int) < (l.length : Int)) || (preL [Tr.mk k s n b l]).any ptV), (172, 41, #[ptr u 0, ptr v5 0], (preL [Tr.mk k s n b l]).any nbV), (173, 41, #[ptr u 0, ptr v6 0], (preL [Tr.mk k s n b l]).any pwV),
  (174, 41, #[ptr u 0, ptr v7 0], (preL [Tr.mk k s n b l]).any unbV), (175, 54, #[ptr u 0], (preL [Tr.mk k s n b l]).any (uncV (hdsL [] l))), (176, 56, #[ptr u 0], !inH (hdsL [] l) (mainB, 0))], ⟨rfl, ?_, ?_⟩, rfl⟩
 ·
  have h18 := eighteen hc
  intro i e n' c b' hi
  match i, hi with
  | 0, hi | 1, hi | 2, hi | 3, hi | 4, hi | 5, hi | 6, hi | 7, hi | 8, hi =>
   simp only [List.getElem?_cons_zero, List.getElem?_cons_succ, Option.some.injEq, Prod.mk.injEq] at hi
   obtain ⟨rfl, rfl, rfl, _⟩ := hi
   exact ⟨h18 _ _ rfl, h18 _ _ rfl⟩
  | i + 9, hi => simp at hi
 ·
  generalize hT0 : Tr.mk k s n b l = T at *
  have few : crowdV T = false → (preL [T]).length ≤ 4000 := fun h => by simpa [crowdV] using h
  have fewU : crowdV T = false → ∀ U ∈ preL [T], U.l.length ≤ 4000 := fun h U hU => by
   have h1 := few h
   have h2 := pre_le hU
   have h3 := l_le U
   omega
  have hl : crowdV T = false → l.length ≤ 4000 := fun h => by
   have := fewU h T (self_pre T)
   rw [← hT0] at this
   exact this
  have shp : ((k != 18) || (preL [T]).any misV) = false → ∀ U ∈ preL [T], misV U = false := fun h U hU => by
   have := (Bool.or_eq_false_iff.1 h).2
   rw [List.any_eq_false] at this
   simpa using this U hU
  intro i e n' c b' hi hno
  have e41 : Ent 41 := ent_of Tryz.func41 (by kernel_rfl) rfl
  match i, hi, hno with
  | 0, hi, hno =>
   simp only [List.getElem?_cons_zero, List.getElem?_cons_succ, Option.some.injEq, Prod.mk.injEq] at hi
   obtain ⟨rfl, rfl, rfl, rfl⟩ := hi
   exact ⟨ent_of Tryz.func43 (by kernel_rfl) rfl, fun w gw => pcrowd_c N w u g o T (cell_gr cu gw (fun e => e)) hs (hT.g0 gw hg) hg (Nat.le_trans hN gw.size)⟩
  | 1, hi, hno =>
   simp only [List.getElem?_cons_zero, List.getElem?_cons_succ, Option.some.injEq, Prod.mk.injEq] at hi
   obtain ⟨rfl, rfl, rfl, rfl⟩ := hi
   subst hT0
   exact ⟨ent_of Tryz.func45 (by kernel_rfl) rfl, fun w gw => pmis_c N w u g o k s n b l (cell_gr cu gw (fun e => e)) hs (hT.g0 gw hg) hg (Nat.le_trans hN gw.size)⟩
  | 2, hi, hno =>
   simp only [List.getElem?_cons_zero, List.getElem?_cons_succ, Option.some.injEq, Prod.mk.injEq] at hi
   obtain ⟨rfl, rfl, rfl, rfl⟩ := hi
   have n0 := few (hno 0 _ (by omega) rfl)
   exact ⟨e41, fun w gw => pany_c w 47 u v3 g o _ (cell_gr cu gw (fun e => e)) (cell_gr c3 gw (fun e => e)) (any_c (over_c N) T hs (fun U hU => ⟨hs.sub hU, by have := pre_le hU; omega⟩) w g o trivial (hT.g0 gw hg) hg (Nat.le_trans hN gw.size))⟩
  | 3, hi, hno =>
   simp only [List.getElem?_cons_zero, List.getElem?_cons_succ, Option.some.injEq, Prod.mk.injEq] at hi
   obtain ⟨rfl, rfl, rfl, rfl⟩ := hi
   have n0 : crowdV T = false := hno 0 _ (by omega) rfl
   have n1 := shp (hno 1 _ (by omega) rfl)
   have hl' := hl n0
   have ha : ∀ w, Gr (fun _ => False) W w → AnyIs 50 g o #[] ((preL [T]).any ptV) w := fun w gw => any_c (twice_c N) T hs (fun U hU => ⟨hs.sub hU, fun V hV => ⟨fewU n0 V (pre_in hU hV), (mis_shape (n1 V (pre_in hU hV))).1⟩⟩) w g o trivial (hT.g0 gw hg) hg (Nat.le_trans hN gw.size)
   subst hT0
   exact ⟨ent_of Tryz.func48 (by kernel_rfl) rfl, fun w gw => ptwice_c N w u g o k s n b l _ (cell_gr cu gw (fun e => e)) hs hl' (hT.g0 gw hg) hg (Nat.le_trans hN gw.size) (fun w' gw' => ha w' (gw.trans gw'))⟩
  | 4, hi, hno =>
   simp only [List.getElem?_cons_zero, List.getElem?_cons_succ, Option.some.injEq, Prod.mk.injEq] at hi
   obtain ⟨rfl, rfl, rfl, rfl⟩ := hi
   exact ⟨e41, fun w gw => pany_c w 51 u v5 g o _ (cell_gr cu gw (fun e => e)) (cell_gr c5 gw (fun e => e)) (any_c (named_c N) T hs (fun U hU => hs U hU) w g o (Bu.gr hB gw (fun e => e)) (hT.g0 gw hg) hg (Nat.le_trans hN gw.size))⟩
  | 5, hi, hno =>
   simp only [List.getElem?_cons_zero, List.getElem?_cons_succ, Option.some.injEq, Prod.mk.injEq] at hi
   obtain ⟨rfl, rfl, rfl, rfl⟩ := hi
   have n1 := shp (hno 1 _ (by omega) rfl)
   exact ⟨e41, fun w gw => pany_c w 52 u v6 g o _ (cell_gr cu gw (fun e => e)) (cell_gr c6 gw (fun e => e)) (any_c (pw_c N) T hs (fun U hU => ⟨hs.sub hU, fun V hV => (mis_shape (n1 V (pre_in hU hV))).2.1⟩) w g o trivial (hT.g0 gw hg) hg (Nat.le_trans hN gw.size))⟩
  | 6, hi, hno =>
   simp only [List.getElem?_cons_zero, List.getElem?_cons_succ, Option.some.injEq, Prod.mk.injEq] at hi
   obtain ⟨rfl, rfl, rfl, rfl⟩ := hi
   have n0 : crowdV T = false := hno 0 _ (by omega) rfl
   have n1 := shp (hno 1 _ (by omega) rfl)
   have hq : ∀ V ∈ preL [T], lkQ V ∧ (V.k = 17 → V.l ≠ []) := fun V hV => ⟨by
    have h1 := fewU n0 V hV
    have h2 := (mis_shape (n1 V hV)).2.2
    obtain ⟨vk, vs, vn, vb, vl⟩ := V
    exact ⟨h1, h2⟩, (mis_shape (n1 V hV)).1⟩
   exact ⟨e41, fun w gw => pany_c w 53 u v7 g o _ (cell_gr cu gw (fun e => e)) (cell_gr c7 gw (fun e => e)) (any_c (unb_c N) T hs (fun U hU => ⟨hs.sub hU, fun V hV => hq V (pre_in hU hV), by have h1 := pre_le hU; have h2 := few n0; omega⟩) w g o trivial (hT.g0 gw hg) hg (Nat.le_trans hN gw.size))⟩
  | 7, hi, hno =>
   simp only [List.getElem?_cons_zero, List.getElem?_cons_succ, Option.some.injEq, Prod.mk.injEq] at hi
   obtain ⟨rfl, rfl, rfl, rfl⟩ := hi
   have hl' := hl (hno 0 _ (by omega) rfl)
   subst hT0
   exact ⟨ent_of Tryz.func54 (by kernel_rfl) rfl, fun w gw => pcall_c N w u g o k s n b l (cell_gr cu gw (fun e => e)) hs hl' (Bu.gr hB gw (fun e => e)) (hT.g0 gw hg) hg (Nat.le_trans hN gw.size)⟩
  | 8, hi, hno =>
   simp only [List.getElem?_cons_zero, List.getElem?_cons_succ, Option.some.injEq, Prod.mk.injEq] at hi
   obtain ⟨rfl, rfl, rfl, rfl⟩ := hi
   have hl' := hl (hno 0 _ (by omega) rfl)
   subst hT0
   exact ⟨ent_of Tryz.func56 (by kernel_rfl) rfl, fun w gw => pmain_c N w u g o k s n b l (cell_gr cu gw (fun e => e)) hs hl' (hT.g0 gw hg) hg (Nat.le_trans hN gw.size)⟩
  | i + 9, hi, hno => simp at hi
/-- Check of any tree. -/
theorem check_c (W : World) (T : Tr) (v : Value) (hR : RepG (fun z => z < W.heap.size) W T v) (hs : Szs [T]) (hB : Bu W) : Calls Tryz.prog 11 #[v] W fun e w' => e = .returned (.int .i64 (chkV T)) ∧ Gr (fun _ => False) W w' := by
 obtain ⟨tk, tt, tn, a1, n1, c1, a2, n2, c2, rfl⟩ := hR.agg
 refine check_walk W tk tt tn a1 n1 c1 a2 n2 c2 _ ?_
 have gA := Gr.alloc W (.cells #[.int .i64 tk, .string tt, .int .i64 tn, .slice a1 n1 c1, .slice a2 n2 c2] 25) (fun _ => False)
 have hsz : (W.alloc (.cells #[.int .i64 tk, .string tt, .int .i64 tn, .slice a1 n1 c1, .slice a2 n2 c2] 25)).heap.size = W.heap.size + 1 := by simp
 obtain ⟨⟨m0, m1, m2, m3, m4⟩, _⟩ := five_cells (heap_alloc_new W (.cells #[.int .i64 tk, .string tt, .int .i64 tn, .slice a1 n1 c1, .slice a2 n2 c2] 25))
 have hT : TAtG (W.heap.size + 1) (W.alloc (.cells #[.int .i64 tk, .string tt, .int .i64 tn, .slice a1 n1 c1, .slice a2 n2 c2] 25)) W.heap.size 0 T := ⟨_, hR.turn (fun z hz hl => ⟨by omega, gA.block z hl (fun e => e)⟩), fun j u hj => by
  match j, hj with
  | 0, hj => cases hj; exact m0
  | 1, hj => cases hj; exact m1
  | 2, hj => cases hj; exact m2
  | 3, hj => cases hj; exact m3
  | 4, hj => cases hj; exact m4
  | j + 5, hj => simp [cellsOf, trv] at hj⟩
 have hB1 := Bu.gr hB gA (fun e => e)
 generalize W.alloc (.cells #[.int .i64 tk, .string tt, .int .i64 tn, .slice a1 n1 c1, .slice a2 n2 c2] 25) = W1 at *
 obtain ⟨k, s, n, b, l⟩ := T
 refine (passes_c W1 W.heap.size 0).mono ?_
 rintro e w1 ⟨u, v3, v5, v6, v7, pb, rfl, ⟨t, hc⟩, cu, c3, c5, c6, c7, g1⟩
 obtain ⟨L, h1, h2⟩ := psd_of (W.heap.size + 1) W1 w1 W.heap.size 0 k s n b l u v3 v5 v6 v7 pb t hc cu c3 c5 c6 c7 (hT.g0 g1 (by omega)) (by omega) (by have := g1.size; omega) hs (Bu.gr hB1 g1 (fun e => e))
 exact ⟨pb, L, rfl, h1, h2, gA.trans g1⟩
end Go.Proofs.YtjedbfbolifjjaaGreatDoor

namespace Go.Proofs.YtjedbfbolifjjaaGreatDoor
open Go.RowKit Go.Maps
variable {W W' : World}
theorem parseV_err {ts : List Tn} {i : Nat} {c : Int} (h : parseV ts = .error (i, c)) : c ≠ 0 := by
 unfold parseV at h
 split at h
 · rename_i hc
   cases h
   exact hc
 · cases h
def EndTr (W : World) (e : Ending) (w' : World) : Except (Nat × Int) Tr → Prop
 | .ok T => ∃ v, e = .returned (.tuple #[v, .bool true]) ∧ Rep (fun z => W.heap.size ≤ z) w' T v ∧ Gr (fun _ => False) W w'
 | .error _ => e = .returned (.tuple #[tr0v, .bool false]) ∧ Gr (fun _ => False) W w'
set_option maxRecDepth 100000 in
set_option maxHeartbeats 1600000 in
theorem tree_c (W : World) (s : ByteArray) (hE : Er W) (hS : Sg W) (hL : Lv W) : Calls Tryz.prog 13 #[.string s] W fun e w' => EndTr W e w' (textV s) := by
 have h4 : 5 < W.heap.size := by obtain ⟨_, t, f, h⟩ := hL; exact (Array.getElem?_eq_some_iff.1 h).1
 have g0 : Gr (fun _ => False) W (W.alloc (.cells zc 25)) := Gr.alloc _ _ _
 have hb0 := heap_alloc_new W (.cells zc 25)
 have hz0 : (W.alloc (.cells zc 25)).heap.size = W.heap.size + 1 := by simp
 have hsc := scan_c (W.alloc (.cells zc 25)) s (hE.gr g0 (fun e => e)) (hS.gr g0 (fun e => e))
 cases hv : scanV s with
 | error p =>
  obtain ⟨i, c⟩ := p
  have hc := scanV_err hv
  have q : (c != 0) = true := by rw [bne_iff_ne]; exact hc
  rw [hv] at hsc
  rw [textV, hv]
  clear hc
  go_enter Tryz.func13, Tryz.ntmps13
  go_wp2_with fail
  generalize W.alloc (.cells zc 25) = W0 at g0 hb0 hz0 hsc ⊢
  obtain ⟨b, hbb⟩ : ∃ b, W.heap.size = b := ⟨_, rfl⟩
  rw [hbb] at hb0 hz0 ⊢
  refine hsc.mono ?_
  rintro e w1 ⟨rfl, g1⟩
  have hb1 := g1.keep hb0 (fun e => e)
  obtain ⟨⟨m0, m1, m2, m3, m4⟩, f0, f1, f2, f3, f4⟩ := five_cells hb1
  go_wp2_with fail
  have gs := set5_gr w1 b (.int .i64 0) (.string e0) (.int .i64 0) nl nl
  have hf := set5_heap hb1 (.int .i64 0) (.string e0) (.int .i64 0) nl nl
  clear m0 m1 m2 m3 m4
  obtain ⟨⟨m0, m1, m2, m3, m4⟩, _⟩ := five_cells hf
  exact bodyPost_ret (v := .tuple #[tr0v, .bool false]) (by simp [results, Tryz.results13, go_sem, m0, m1, m2, m3, m4]) rfl ⟨rfl, (g0.trans g1).trans' gs (fun k hk e => by omega)⟩
 | ok l =>
  rw [hv] at hsc
  rw [textV, hv]
  show Calls Tryz.prog 13 #[.string s] W fun e w' => EndTr W e w' (parseV (l.map tnOf))
  have hp := fun w base vs a c h1 h2 h3 => parseT_c w base s l vs a c hv h1 h2 h3
  have hpe : Hid (∀ i c, parseV (l.map tnOf) = .error (i, c) → c ≠ 0) := fun i c h => parseV_err h
  generalize parseV (l.map tnOf) = r at hp hpe ⊢
  go_enter Tryz.func13, Tryz.ntmps13
  go_wp2_with fail
  generalize W.alloc (.cells zc 25) = W0 at g0 hb0 hz0 hsc ⊢
  obtain ⟨b, hbb⟩ : ∃ b, W.heap.size = b := ⟨_, rfl⟩
  rw [hbb] at hb0 hz0 ⊢
  refine hsc.mono ?_
  rintro e w1 ⟨sv, vs, rfl, hT, g1⟩
  have hb1 := g1.keep hb0 (fun e => e)
  obtain ⟨a, c, rfl⟩ := hT.sv
  have G1 := g0.trans g1
  have hcl := hp w1 _ vs a c hT (hL.gr G1 (fun e => e) (fun e => e)) (Nat.lt_of_lt_of_le h4 G1.size)
  have hs1 := G1.size
  have hsg := g1.size
  clear hp
  cases r with
  | error p =>
   obtain ⟨i, c'⟩ := p
   have q : (c' == 0) = false := by simpa using hpe.out i c' rfl
   go_wp2_with fail
   refine hcl.mono ?_
   rintro e w2 ⟨rfl, g2⟩
   have gA := Gr.alloc w2 (.cells zc 25) (fun _ => False)
   have hb2 := gA.keep (g2.keep hb1 (fun e => e)) (fun e => e)
   obtain ⟨⟨k0, k1, k2, k3, k4⟩, _⟩ := five_cells (heap_alloc_new w2 (.cells zc 25))
   obtain ⟨⟨m0, m1, m2, m3, m4⟩, f0, f1, f2, f3, f4⟩ := five_cells hb2
   have gs := set5_gr (w2.alloc (.cells zc 25)) b (.int .i64 0) (.string e0) (.int .i64 0) nl nl
   have hf := set5_heap hb2 (.int .i64 0) (.string e0) (.int .i64 0) nl nl
   have G2 := (G1.trans g2).trans gA
   replace gs := Lib.hid gs
   replace hf := Lib.hid hf
   go_wp2_with fail
   clear m0 m1 m2 m3 m4
   obtain ⟨⟨m0, m1, m2, m3, m4⟩, _⟩ := five_cells hf.out
   exact bodyPost_ret (v := .tuple #[tr0v, .bool false]) (by simp [results, Tryz.results13, go_sem, m0, m1, m2, m3, m4]) rfl ⟨rfl, G2.trans' gs.out (fun k hk e => by omega)⟩
  | ok T =>
   go_wp2_with fail
   refine hcl.mono ?_
   rintro e w2 ⟨v, rfl, rep2, g2⟩
   obtain ⟨tk, tt, tn, a1, n1, c1, a2, n2, c2, rfl⟩ := rep2.agg
   have gA := Gr.alloc w2 (.cells #[.int .i64 tk, .string tt, .int .i64 tn, .slice a1 n1 c1, .slice a2 n2 c2] 25) (fun _ => False)
   have hb2 := gA.keep (g2.keep hb1 (fun e => e)) (fun e => e)
   obtain ⟨⟨k0, k1, k2, k3, k4⟩, _⟩ := five_cells (heap_alloc_new w2 (.cells #[.int .i64 tk, .string tt, .int .i64 tn, .slice a1 n1 c1, .slice a2 n2 c2] 25))
   obtain ⟨⟨m0, m1, m2, m3, m4⟩, f0, f1, f2, f3, f4⟩ := five_cells hb2
   have gs := set5_gr (w2.alloc (.cells #[.int .i64 tk, .string tt, .int .i64 tn, .slice a1 n1 c1, .slice a2 n2 c2] 25)) b (.int .i64 tk) (.string tt) (.int .i64 tn) (.slice a1 n1 c1) (.slice a2 n2 c2)
   have hf := set5_heap hb2 (.int .i64 tk) (.string tt) (.int .i64 tn) (.slice a1 n1 c1) (.slice a2 n2 c2)
   have G2 := (G1.trans g2).trans gA
   have rep := (((rep2.gr gA (fun k hk e => e)).mono (base' := b + 1) (by omega)).gr gs (fun k hk e => by omega)).mono (base' := W.heap.size) (by omega)
   replace gs := Lib.hid gs
   replace hf := Lib.hid hf
   replace rep := Lib.hid rep
   clear rep2
   go_wp2_with fail
   clear m0 m1 m2 m3 m4
   obtain ⟨⟨m0, m1, m2, m3, m4⟩, _⟩ := five_cells hf.out
   exact bodyPost_ret (v := .tuple #[trv tk tt tn (.slice a1 n1 c1) (.slice a2 n2 c2), .bool true]) (by simp [results, Tryz.results13, go_sem, m0, m1, m2, m3, m4]) rfl ⟨_, rfl, rep.out, G2.trans' gs.out (fun k hk e => by omega)⟩
end Go.Proofs.YtjedbfbolifjjaaGreatDoor
