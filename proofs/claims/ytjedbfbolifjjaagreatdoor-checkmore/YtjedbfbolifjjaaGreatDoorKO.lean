/-
  A function's head; names of builtins; patterns.
  Sets of heads: a name and a number.
-/
import Derived.Test.YtjedbfbolifjjaaGreatDoorKC
import Derived.Test.YtjedbfbolifjjaaGreatDoorKA
import Derived.Test.YtjedbfbolifjjaaGreatDoorKB
import Derived.DeepKeys4
set_option linter.unusedVariables false
set_option linter.unusedSimpArgs false
namespace Go.Proofs.YtjedbfbolifjjaaGreatDoor
open Go.RowKit Go.Maps
variable {W W' : World}
theorem two_cells {w : World} {b : Nat} {x y : Value} {t : TypeId} {f : Nat × Nat} (h : w.heap[b]? = some (.cells #[x, y] t f)) : w.cell? ⟨b, 0, none⟩ = some x ∧ w.cell? ⟨b, 1, none⟩ = some y := by
 constructor <;> unfold World.cell? <;> rw [h] <;> rfl
abbrev hdv (s : ByteArray) (n : Int) : Value := .agg #[.string s, .int .i64 n]
set_option maxRecDepth 100000 in
set_option maxHeartbeats 1600000 in
theorem head_c (N : Nat) (W : World) (g o : Nat) (k : Int) (s : ByteArray) (n : Int) (b : List Int) (l : List Tr) (hT : TAtG N W g o (.mk k s n b l)) (hl : l.length ≤ 4611686018427387904) : Calls Tryz.prog 70 #[ptr g o] W fun e w' => e = .returned (hdv s ((l.length : Int) - 1)) ∧ Gr (fun _ => False) W w' := by
 obtain ⟨ba, bc, la, lc, ⟨x0, x1, x2, x3, x4⟩, hrow, hgl⟩ := hT.parts
 have hlI : (l.length : Int) ≤ 4611686018427387904 := by omega
 have gA := Gr.alloc W (.cells #[.string e0, .int .i64 0] 61) (fun _ => False)
 have y1 := cell_gr x1 gA (fun e => e)
 have y4 := cell_gr x4 gA (fun e => e)
 clear hrow hT x0 x2 x3
 go_enter Tryz.func70, Tryz.ntmps70
 go_wp2_with fail
 go_region
 go_wp2_with fail
 have hb := heap_alloc_new W (.cells #[.string s, .int .i64 ((l.length : Int) - 1)] 61)
 obtain ⟨m0, m1⟩ := two_cells (w := (W.alloc (.cells #[.string s, .int .i64 ((l.length : Int) - 1)] 61)).drew) hb
 exact bodyPost_ret (v := hdv s ((l.length : Int) - 1)) (by simp [results, Tryz.results70, go_sem, m0, m1]) rfl ⟨rfl, (Gr.alloc _ _ _).trans (Gr.drew _ _)⟩
def nbV : Tr → Bool
 | .mk k s _ _ l => (k == 17) && !((biV s ((l.length : Int) - 1) : Int) == 0)
set_option maxRecDepth 100000 in
set_option maxHeartbeats 1600000 in
theorem named_c (N : Nat) : So N 51 #[] Bu szT nbV := by
 refine ⟨ent_of Tryz.func51 (by kernel_rfl) rfl, fun _ _ h g => Bu.gr h g (fun e => e), fun W g o T hB hs hT hg hN => ?_⟩
 obtain ⟨k, s, n, b, l⟩ := T
 have hh := head_c N W g o k s n b l hT hs.2
 obtain ⟨ba, bc, la, lc, ⟨x0, x1, x2, x3, x4⟩, hrow, hgl⟩ := hT.parts
 show Calls Tryz.prog 51 #[ptr g o] W fun e w' => e = .returned (.bool ((k == 17) && !((biV s ((l.length : Int) - 1) : Int) == 0))) ∧ Gr (fun _ => False) W w'
 generalize (l.length : Int) - 1 = m at hh ⊢
 have hbi := Lib.hid (fun w (gw : Gr (fun _ => False) W w) => builtin_c w s m (Bu.gr hB gw (fun e => e)))
 generalize biV s m = q at hbi ⊢
 replace hh := Lib.hid hh
 replace hB := Lib.hid hB
 clear hrow hT x1 x2 x3 x4 hs
 cases hk : k == 17
 case false =>
  go_enter Tryz.func51, Tryz.ntmps51
  go_wp2_with fail
  refine hh.out.mono ?_
  rintro e w1 ⟨rfl, g1⟩
  have y0 := cell_gr x0 g1 (fun e => e)
  have hs1 := g1.size
  have hg1 : g < w1.heap.size := by omega
  have gA := Gr.alloc w1 (.cells #[.string s, .int .i64 m] 61) (fun _ => False)
  have z0 := cell_gr y0 gA (fun e => e)
  go_wp2_with fail
  go_ret
  exact ⟨rfl, g1.trans gA⟩
 case true =>
  cases hq : ((q : Int) == 0)
  all_goals
   go_enter Tryz.func51, Tryz.ntmps51
   go_wp2_with fail
   refine hh.out.mono ?_
   rintro e w1 ⟨rfl, g1⟩
   have y0 := cell_gr x0 g1 (fun e => e)
   have hs1 := g1.size
   have hg1 : g < w1.heap.size := by omega
   have gA := Gr.alloc w1 (.cells #[.string s, .int .i64 m] 61) (fun _ => False)
   have z0 := cell_gr y0 gA (fun e => e)
   go_wp2_with fail
   refine (hbi.out _ (g1.trans gA)).mono ?_
   rintro e w2 ⟨rfl, g2⟩
   go_wp2_with fail
   go_ret
   exact ⟨by simp [bne, hq], (g1.trans gA).trans g2⟩
/-- Patterns. -/
def patL : List Tr → Bool
 | [] => true
 | .mk k s n b l :: r => (if k = 1 ∨ k = 2 ∨ k = 3 ∨ k = 4 then true else if k = 7 then (l.head?.map (isK 1)).getD false else if k = 5 ∨ k = 6 then patL l else false) && patL r
theorem patL_cons (k : Int) (s : ByteArray) (n : Int) (b : List Int) (l r : List Tr) : patL (.mk k s n b l :: r) = ((if k = 1 ∨ k = 2 ∨ k = 3 ∨ k = 4 then true else if k = 7 then (l.head?.map (isK 1)).getD false else if k = 5 ∨ k = 6 then patL l else false) && patL r) := by rw [patL]
theorem patL_nil : patL [] = true := by rw [patL]
def patV (T : Tr) : Bool := patL [T]
theorem patV_mk (k : Int) (s : ByteArray) (n : Int) (b : List Int) (l : List Tr) : patV (.mk k s n b l) = if k = 1 ∨ k = 2 ∨ k = 3 ∨ k = 4 then true else if k = 7 then (l.head?.map (isK 1)).getD false else if k = 5 ∨ k = 6 then patL l else false := by rw [patV, patL_cons, patL_nil, Bool.and_true]
theorem patL_all : ∀ l : List Tr, patL l = l.all patV
 | [] => by rw [patL_nil]; rfl
 | .mk k s n b l :: r => by rw [patL_cons, List.all_cons, patL_all r, patV_mk]
/-- A part whose first part is asked for has one. -/
def ne1 : Tr → Prop
 | .mk k _ _ _ l => (k = 7 ∨ k = 9 ∨ k = 15) → l ≠ []
def PatOk (N : Nat) (T : Tr) : Prop := ∀ (W : World) (g o : Nat), TAtG N W g o T → g < N → N ≤ W.heap.size → Calls Tryz.prog 71 #[ptr g o] W fun e w' => e = .returned (.bool (patV T)) ∧ Gr (fun _ => False) W w'
set_option maxRecDepth 100000 in
set_option maxHeartbeats 1600000 in
theorem pat_node (N : Nat) (k : Int) (s : ByteArray) (n : Int) (b : List Int) (l : List Tr) (hl : l.length ≤ 4611686018427387904) (h7 : k = 7 → l ≠ []) (ih : ∀ T ∈ l, PatOk N T) : PatOk N (.mk k s n b l) := by
 intro W g o hT hg hN
 obtain ⟨ba, bc, la, lc, ⟨x0, x1, x2, x3, x4⟩, hrow, hgl⟩ := hT.parts
 rw [patV_mk]
 by_cases c1 : k = 1 ∨ k = 2 ∨ k = 3 ∨ k = 4
 ·
  rw [if_pos c1]
  clear hrow hT x1 x2 x3 x4 ih h7
  rcases c1 with rfl | rfl | rfl | rfl
  all_goals
   go_enter Tryz.func71, Tryz.ntmps71
   go_wp2_with fail
   go_ret
   exact ⟨rfl, Gr.refl _ _⟩
 rw [if_neg c1]
 by_cases c7 : k = 7
 ·
  subst c7
  rw [if_pos rfl]
  obtain ⟨A, r, rfl⟩ : ∃ A r, l = A :: r := by cases l with
   | nil => exact absurd rfl (h7 rfl)
   | cons A r => exact ⟨A, r, rfl⟩
  obtain ⟨g', o', rfl, hg', hA⟩ := hrow 0 A rfl
  obtain ⟨k', s', n', b', l'⟩ := A
  obtain ⟨ba', bc', la', lc', ⟨y0, y1, y2, y3, y4⟩, hrow', hgl'⟩ := hA.parts
  rw [Nat.zero_mul, Nat.add_zero] at y0
  show Calls Tryz.prog 71 #[ptr g o] W fun e w' => e = .returned (.bool (k' == 1)) ∧ Gr (fun _ => False) W w'
  have hlen : (Tr.mk k' s' n' b' l' :: r).length = r.length + 1 := rfl
  rw [hlen] at x4
  have hlI : (r.length : Int) + 1 ≤ 4611686018427387904 := by rw [hlen] at hl; omega
  clear hrow hT x1 x2 x3 ih h7 hA y1 y2 y3 y4 hrow' hlen hl c1
  go_enter Tryz.func71, Tryz.ntmps71
  go_wp2_with fail
  go_ret
  exact ⟨rfl, Gr.refl _ _⟩
 rw [if_neg c7]
 by_cases c5 : k = 5 ∨ k = 6
 ·
  rw [if_pos c5, patL_all]
  have hE := every_c (n := 71) (caps := #[]) (I := fun _ => True) (Q := fun T => T ∈ l) (P := patV) (N := N) ⟨ent_of Tryz.func71 (by kernel_rfl) rfl, fun _ _ _ _ => trivial, fun W g o T _ hQ hT hg hN => ih T hQ W g o hT hg hN⟩ l hl (fun T h => h) W la lc trivial hrow hN
  replace hE := Lib.hid hE
  clear hrow hT x1 x2 x3 ih h7 c1 c7
  rcases c5 with rfl | rfl
  all_goals
   go_enter Tryz.func71, Tryz.ntmps71
   go_wp2_with fail
   refine hE.out.mono ?_
   rintro e w1 ⟨rfl, g1⟩
   go_wp2_with fail
   go_ret
   exact ⟨rfl, g1⟩
 rw [if_neg c5]
 have q1 : (k == 1) = false := by simp; omega
 have q2 : (k == 2) = false := by simp; omega
 have q3 : (k == 3) = false := by simp; omega
 have q4 : (k == 4) = false := by simp; omega
 have q5 : (k == 5) = false := by simp; omega
 have q6 : (k == 6) = false := by simp; omega
 have q7 : (k == 7) = false := by simp; omega
 clear hrow hT x1 x2 x3 x4 ih h7 c1 c7 c5
 go_enter Tryz.func71, Tryz.ntmps71
 go_wp2_with fail
 go_ret
 exact ⟨rfl, Gr.refl _ _⟩
theorem pat_c (N : Nat) (T : Tr) : Szs [T] → (∀ U ∈ preL [T], ne1 U) → PatOk N T :=
 Tr.rec (motive_1 := fun T => Szs [T] → (∀ U ∈ preL [T], ne1 U) → PatOk N T) (motive_2 := fun l => Szs l → (∀ U ∈ preL l, ne1 U) → ∀ T ∈ l, PatOk N T)
  (fun k s m b l ih hs hQ => by
    have h1 : l.length ≤ 4611686018427387904 := (hs (.mk k s m b l) (by rw [preL_cons]; simp)).2
    have h2 := hQ (.mk k s m b l) (by rw [preL_cons]; simp)
    refine pat_node N k s m b l h1 (fun e => h2 (.inl e)) (ih (fun U hU => hs U ?_) (fun U hU => hQ U ?_))
    · rw [preL_cons]; simp [hU]
    · rw [preL_cons]; simp [hU])
  (fun _ _ T h => by cases h)
  (fun T l h1 h2 hs hQ U hU => by
    have e : preL (T :: l) = preL [T] ++ preL l := preL_app [T] l
    rcases List.mem_cons.1 hU with rfl | hU
    · exact h1 (fun V hV => hs V (by rw [e]; simp [hV])) (fun V hV => hQ V (by rw [e]; simp [hV]))
    · exact h2 (fun V hV => hs V (by rw [e]; simp [hV])) (fun V hV => hQ V (by rw [e]; simp [hV])) U hU) T
def pwV : Tr → Bool
 | .mk k _ _ _ l => ((k == 9) || (k == 15)) && !(l.head?.map patV).getD false
set_option maxRecDepth 100000 in
set_option maxHeartbeats 1600000 in
theorem pw_c (N : Nat) : So N 52 #[] (fun _ => True) (fun T => Szs [T] ∧ ∀ U ∈ preL [T], ne1 U) pwV := by
 refine ⟨ent_of Tryz.func52 (by kernel_rfl) rfl, fun _ _ _ _ => trivial, fun W g o T _ hs hT hg hN => ?_⟩
 obtain ⟨k, s, n, b, l⟩ := T
 obtain ⟨hs, hne⟩ := hs
 have hne0 := hne (.mk k s n b l) (by rw [preL_cons]; simp)
 obtain ⟨ba, bc, la, lc, ⟨x0, x1, x2, x3, x4⟩, hrow, hgl⟩ := hT.parts
 show Calls Tryz.prog 52 #[ptr g o] W fun e w' => e = .returned (.bool (((k == 9) || (k == 15)) && !(l.head?.map patV).getD false)) ∧ Gr (fun _ => False) W w'
 by_cases c1 : k = 9 ∨ k = 15
 ·
  obtain ⟨A, r, rfl⟩ : ∃ A r, l = A :: r := by cases l with
   | nil => exact absurd rfl (hne0 (.inr c1))
   | cons A r => exact ⟨A, r, rfl⟩
  obtain ⟨g', o', rfl, hg', hA⟩ := hrow 0 A rfl
  rw [Nat.zero_mul, Nat.add_zero] at hA
  have e1 : preL [Tr.mk k s n b (A :: r)] = Tr.mk k s n b (A :: r) :: (preL [A] ++ preL r) := by
   rw [preL_cons, preL_nil, List.append_nil, show A :: r = [A] ++ r from rfl, preL_app]
  have hp := pat_c N A (fun U hU => hs U (by rw [e1]; simp [hU])) (fun U hU => hne U (by rw [e1]; simp [hU])) W g' o' hA hg' hN
  have hl : (A :: r).length ≤ 4611686018427387904 := (hs (.mk k s n b (A :: r)) (by rw [preL_cons]; simp)).2
  have hlen : (A :: r).length = r.length + 1 := rfl
  rw [hlen] at x4 hl
  have hlI : (r.length : Int) + 1 ≤ 4611686018427387904 := by omega
  show Calls Tryz.prog 52 #[ptr g o] W fun e w' => e = .returned (.bool (((k == 9) || (k == 15)) && !patV A)) ∧ Gr (fun _ => False) W w'
  generalize patV A = pA at hp ⊢
  replace hp := Lib.hid hp
  clear hrow hT x1 x2 x3 hne hne0 hA e1 hlen hl hs
  rcases c1 with rfl | rfl
  all_goals
   go_enter Tryz.func52, Tryz.ntmps52
   go_wp2_with fail
   refine hp.out.mono ?_
   rintro e w1 ⟨rfl, g1⟩
   go_wp2_with fail
   go_ret
   exact ⟨rfl, g1⟩
 ·
  have q1 : (k == 9) = false := by simp; omega
  have q2 : (k == 15) = false := by simp; omega
  rw [q1, q2]
  clear hrow hT x1 x2 x3 x4 hne hne0 hs c1
  go_enter Tryz.func52, Tryz.ntmps52
  go_wp2_with fail
  go_ret
  exact ⟨rfl, Gr.refl _ _⟩
end Go.Proofs.YtjedbfbolifjjaaGreatDoor

namespace Go.Proofs.YtjedbfbolifjjaaGreatDoor
open Go.RowKit Go.Maps Go.WideMaps
variable {S S' : Nat → Prop} {W W1 W' : World}
abbrev kH (s : ByteArray) (n : Int) : Go.Lit := .string (keyBytes [.string s.data.toList, .int .i64 n])
theorem laidOutT : laidOutB Tryz.prog = true := by kernel_rfl
theorem row61 : (61 : TypeId) < Tryz.prog.types.size := of_decide_eq_true (by kernel_rfl)
theorem kta61 : Tryz.prog.keyTypeAt 3 61 = true := by kernel_rfl
theorem law61 : Keyed Tryz.prog 61 := Keyed.of_law (deep_law_laid laidOutT (m := 3) (by omega) row61 kta61 (by kernel_rfl))
theorem kt61 : Tryz.prog.keyType 61 = true := by kernel_rfl
theorem co61 : Tryz.prog.cellsOf 61 = 2 := by kernel_rfl
theorem co9 : Tryz.prog.cellsOf 9 = 1 := by kernel_rfl
theorem co3 : Tryz.prog.cellsOf 3 = 1 := by kernel_rfl
theorem sz61 : ∃ m, Tryz.prog.types.size + 1 = m + 1 + 1 := ⟨Tryz.prog.types.size - 1, by have : (1 : Nat) ≤ Tryz.prog.types.size := of_decide_eq_true (by kernel_rfl); omega⟩
def hOk (h : ByteArray × Int) : Prop := h.1.size ≤ 140737488351232 ∧ (Go.Lit.int .i64 h.2).wf = true
theorem kH_of {s : ByteArray} {n : Int} (h : hOk (s, n)) : keyOf Tryz.prog 61 (hdv s n) = some (kH s n) := by
 obtain ⟨h1, h2⟩ := h
 dsimp only at h1 h2
 have h1' : s.size ≤ maxLen := by unfold maxLen; omega
 obtain ⟨m, hm⟩ := sz61
 have hf : (hdv s n).formed Tryz.prog 61 = true := by simp [Value.formed, Tryz.underlying61, co61]
 unfold keyOf
 rw [Tryz.underlying61]
 simp only [kt61, hf, Bool.and_self, if_true, hm]
 simp [Program.keyLits, Tryz.underlying61, Tryz.underlying9, Tryz.underlying3, co61, co9, co3, Value.cells, h1', h2]
theorem kH_ne {h h' : ByteArray × Int} (a : hOk h) (b : hOk h') (hn : h ≠ h') : kH h.1 h.2 ≠ kH h'.1 h'.2 := fun e => hn (by
 have h1 := kH_of (s := h.1) (n := h.2) a
 have h2 := kH_of (s := h'.1) (n := h'.2) b
 rw [e] at h1
 have := law61.inj h1 h2
 simp only [hdv, Value.agg.injEq, Array.mk.injEq, List.cons.injEq, Value.string.injEq, Value.int.injEq, true_and, and_true] at this
 exact Prod.ext this.1 this.2)
def inH (L : List (ByteArray × Int)) (h : ByteArray × Int) : Bool := L.any fun x => decide (x = h)
theorem inH_iff {L : List (ByteArray × Int)} {h : ByteArray × Int} : inH L h = true ↔ h ∈ L := by simp [inH]
theorem inH_app (L : List (ByteArray × Int)) (s x : ByteArray × Int) : inH (L ++ [s]) x = (inH L x || decide (s = x)) := by simp [inH]
/-- A set of heads. -/
def Hs (W : World) (mb : Nat) (L : List (ByteArray × Int)) : Prop :=
 ∃ D, W.ownsMap Tryz.prog 61 RR mb L.length D ∧ Maps.size D = L.length ∧ ∀ h, hOk h → Maps.has D (kH h.1 h.2) = inH L h ∧ D.atKey (kH h.1 h.2) (.held (.agg #[])) = .held (.agg #[])
theorem Hs.lt {mb : Nat} {L : List (ByteArray × Int)} (h : Hs W mb L) : mb < W.heap.size := by
 obtain ⟨D, h1, _⟩ := h; exact h1.lt
theorem Hs.gr {mb : Nat} {L : List (ByteArray × Int)} (h : Hs W mb L) (g : Gr S W W') (hs : ¬ S mb) : Hs W' mb L := by
 have hl := h.lt
 obtain ⟨D, ⟨es, clock, h1, h2⟩, h3⟩ := h
 exact ⟨D, ⟨es, clock, (g.block mb hl hs).trans h1, h2⟩, h3⟩
theorem Hs.new (W : World) : Hs (W.alloc (.map #[] 0)) W.heap.size [] :=
 ⟨.map [], World.ownsMap_made W Tryz.prog 61 RR, rfl, fun s _ => ⟨rfl, rfl⟩⟩
theorem Hs.look {mb : Nat} {L : List (ByteArray × Int)} (h : Hs W mb L) {s : ByteArray} {n : Int} (hk : hOk (s, n)) :
 (Instr.lookup 73 (.map (some mb)) (hdv s n) true).run Tryz.prog W = .ok (.tuple #[.agg #[], .bool (inH L (s, n))]) W := by
 obtain ⟨D, h1, h2, h3⟩ := h
 obtain ⟨v, ps, hr, hv⟩ := h1.look_ok law61 Tryz.underlying73 (zero87 W) (zd := .held (.agg #[])) (zp := []) rfl (kH_of hk)
 obtain ⟨h4, h5⟩ := h3 (s, n) hk
 dsimp only at h4 h5
 rw [h5] at hv
 simp only [RR, Option.some.injEq, Prod.mk.injEq, DataW.held.injEq] at hv
 rw [hr, hv.1, h4]
def putH (L : List (ByteArray × Int)) (h : ByteArray × Int) : List (ByteArray × Int) := if inH L h = true then L else L ++ [h]
theorem Hs.put {mb : Nat} {L : List (ByteArray × Int)} (h : Hs W mb L) {s : ByteArray} {n : Int} (hk : hOk (s, n)) (hn : L.length ≤ 1000000) :
 ∃ w', (Instr.mapUpdate 73 (.map (some mb)) (hdv s n) (.agg #[])).run Tryz.prog W = .ok () w' ∧ Hs w' mb (putH L (s, n)) ∧ Gr (fun i => i = mb) W w' ∧ w'.heap.size = W.heap.size := by
 obtain ⟨D, h1, h2, h3⟩ := h
 obtain ⟨w', hr, h4, h5⟩ := h1.store law61 Tryz.underlying73 (by unfold maxLen; omega) (kH_of hk) (val := .agg #[]) (d := .held (.agg #[])) (ps := []) rfl
 have hsz : Maps.size (D.put (kH s n) (.held (.agg #[]))) = (putH L (s, n)).length := by
  rw [size_put (h1.tidy law61), (h3 (s, n) hk).1, h2]
  unfold putH
  cases inH L (s, n) <;> simp
 refine ⟨w', hr, ⟨_, ?_, hsz, fun x hx => ?_⟩, Gr.of_grown h5.grown (fun i e => by cases e; rfl), ?_⟩
 · obtain ⟨es, clock, k1, k2, k3, k4⟩ := h4
   refine ⟨es, clock, k1, k2, ?_, k4⟩
   have e1 : Maps.size (D.put (kH s n) (.held (.agg #[]))) = es.size := by rw [k4]; simp [Maps.size, length_sorted]
   rw [← hsz, e1]; exact Nat.le_refl _
 ·
  by_cases e : x = (s, n)
  ·
   subst e
   rw [has_put_same h1.isMap (show WideAt.IsKeyLit (kH s n) from trivial), atKey_put_same h1.isMap (show WideAt.IsKeyLit (kH s n) from trivial)]
   refine ⟨?_, rfl⟩
   unfold putH
   cases h6 : inH L (s, n) with
   | true => simp [h6]
   | false => simp [inH_app]
  ·
   have hne := kH_ne hx hk e
   dsimp only at hne
   rw [has_put_other hne, atKey_put_other hne]
   obtain ⟨h6, h7⟩ := h3 x hx
   refine ⟨?_, h7⟩
   rw [h6]
   unfold putH
   cases h8 : inH L (s, n) with
   | true => simp
   | false => simp [inH_app, Ne.symm e]
 · obtain ⟨_, _, _, _, _, rfl⟩ := h5
   exact Array.size_setIfInBounds
theorem Hs.len {mb : Nat} {L : List (ByteArray × Int)} (h : Hs W mb L) (ty : TypeId) : (Builtin.len_ #[73] ty #[.map (some mb)]).run Tryz.prog W = .ok (.int .i64 (L.length : Int)) W := by
 obtain ⟨D, h1, h2, h3⟩ := h
 rw [h1.len Tryz.underlying73 ty, h2]
end Go.Proofs.YtjedbfbolifjjaaGreatDoor
