/-
  Carried over from another seat of ours (HH).
  A tree, each variable A in it Zz_A.
  renamed: a tree, each variable A in it Zz_A.
-/
import Derived.Test.YtjedbfbolifjjaaGreatDoorGN
import Derived.Test.YtjedbfbolifjjaaGreatDoorGH
import Derived.Test.YtjedbfbolifjjaaGreatDoorGQ
set_option linter.unusedVariables false
set_option linter.unusedSimpArgs false
namespace Go.Proofs.YtjedbfbolifjjaaGreatDoor
open Go.RowKit Go.Maps
variable {W W' : World}
end Go.Proofs.YtjedbfbolifjjaaGreatDoor

namespace Go.Proofs.YtjedbfbolifjjaaGreatDoor
open Go.RowKit Go.Maps
abbrev aV : ByteArray := ⟨#[65]⟩
abbrev zV : ByteArray := ⟨#[90, 122, 95, 65]⟩
def rn (s : ByteArray) : ByteArray := if s = aV then zV else s
def rnS (k : Int) (s : ByteArray) : ByteArray := if k = 3 then rn s else s
def renL : List Tr → List Tr
 | [] => []
 | .mk k s n b l :: r => .mk k (rnS k s) n b (renL l) :: renL r
def renV : Tr → Tr
 | .mk k s n b l => .mk k (rnS k s) n b (renL l)
theorem renL_nil : renL [] = [] := by rw [renL]
theorem renL_cons (k : Int) (s : ByteArray) (n : Int) (b : List Int) (l r : List Tr) : renL (.mk k s n b l :: r) = .mk k (rnS k s) n b (renL l) :: renL r := by rw [renL]
theorem renV_mk (k : Int) (s : ByteArray) (n : Int) (b : List Int) (l : List Tr) : renV (.mk k s n b l) = .mk k (rnS k s) n b (renL l) := rfl
theorem renL_map : ∀ l : List Tr, renL l = l.map renV
 | [] => by rw [renL_nil]; rfl
 | .mk k s n b l :: r => by rw [renL_cons, List.map_cons, renL_map r]; rfl
theorem pre_ren : ∀ l : List Tr, preL (renL l) = (preL l).map renV
 | [] => by rw [renL_nil, preL_nil]; rfl
 | .mk k s n b l :: r => by rw [renL_cons, preL_cons, preL_cons, pre_ren l, pre_ren r, List.map_cons, List.map_append]; rfl
theorem ren_len (l : List Tr) : (renL l).length = l.length := by rw [renL_map, List.length_map]
end Go.Proofs.YtjedbfbolifjjaaGreatDoor

namespace Go.Proofs.YtjedbfbolifjjaaGreatDoor
open Go.RowKit Go.Maps
variable {W W' : World}
/-- What renamed answers of a tree whose blocks are A. -/
def Calls23 (T T' : Tr) : Prop := ∀ (W : World) (A : Nat → Prop) (v : Value), Rep A W T v → (∀ z, A z → z < W.heap.size) → (∀ U ∈ preL [T], U.l.length ≤ 100000) →
 Calls Tryz.prog 23 #[v] W fun e w' => ∃ v', e = .returned v' ∧ Rep (fun z => A z ∨ W.heap.size ≤ z) w' T' v' ∧ Gr (fun _ => False) W w'
abbrev RenOk (T : Tr) : Prop := Calls23 T (renV T)
theorem ren_grown {A : Nat → Prop} {base : Nat} {l : List Tr} {u v' v : Value} {T : Tr} {vs : List Value} (hA : ∀ z, A z → z < base) (hb : base ≤ W.heap.size)
 (hreps : Reps (fun z => (A z ∨ base ≤ z) ∧ u.ownBlock ≠ some z) W l vs) (hrep : Rep (fun z => (A z ∨ base ≤ z) ∧ u.ownBlock ≠ some z) W T v)
 (h5 : W.grownBy W' u.ownBlock) (hloc : v'.ownBlock = u.ownBlock ∨ v'.ownBlock = some W.heap.size) : Reps (fun z => (A z ∨ base ≤ z) ∧ v'.ownBlock ≠ some z) W' (l ++ [T]) (vs ++ [v]) := by
 have hT : Turn (fun z => (A z ∨ base ≤ z) ∧ u.ownBlock ≠ some z) (fun z => (A z ∨ base ≤ z) ∧ v'.ownBlock ≠ some z) W W' := fun z hz hl => by
  have h1 : v'.ownBlock ≠ some z := by
   rcases hloc with e | e
   · rw [e]; exact hz.2
   · rw [e]; intro e2; cases e2; omega
  exact ⟨⟨hz.1, h1⟩, h5.block z hl (fun e => hz.2 e.symm)⟩
 exact (hreps.turn hT).snoc (hrep.turn hT)
theorem renL_at {l : List Tr} {i : Nat} {U : Tr} (h : l[i]? = some U) : renL (l.take (i + 1)) = renL (l.take i) ++ [renV U] := by
 rw [renL_map, renL_map, List.take_add_one, h]
 simp
theorem rep_own {A : Nat → Prop} {base m : Nat} {T : Tr} {v u : Value} {n : Nat} {xs : List Value} {Wo : World} (h : Rep (fun z => A z ∨ m ≤ z) W T v) (hA : ∀ z, A z → z < base) (hrow : Wo.ownsRow base 25 5 u n xs) (hm : Wo.heap.size ≤ m) (hb : base ≤ m) : Rep (fun z => (A z ∨ base ≤ z) ∧ u.ownBlock ≠ some z) W T v :=
 h.turn (fun z hz hl => ⟨⟨by rcases hz with h | h; exact .inl h; exact .inr (by omega), fun e => by have h2 := ownsRow_lt hrow z e; rcases hz with h | h; have := hA z h; omega; omega⟩, rfl⟩)
/-- What holds when i parts are done: b is the size of the world at the start; b, b + 1, b + 2 the call's own blocks. -/
def RS (A : Nat → Prop) (W : World) (b : Nat) (vT : List Value) (k : Int) (s : ByteArray) (n : Int) (bv : Value) (l : List Tr) (wr : World) (i : Nat) (us : List Value) (oa : Option Addr) (oc : Nat) : Prop :=
 wr.heap[b + 2]? = some (.cells #[.int .i64 k, .string s, .int .i64 n, bv, .slice oa i oc] 25 (0, 0)) ∧ wr.ownsRow (b + 3) 25 5 (.slice oa i oc) i (us.flatMap cellsOf) ∧
 Hid (Reps (fun z => (A z ∨ b + 3 ≤ z) ∧ (Value.slice oa i oc).ownBlock ≠ some z) wr (renL (l.take i)) us) ∧ wr.heap[b]? = some (.cells vT.toArray 25 (0, 0)) ∧ wr.heap[b + 1]? = some (.cells zc 25 (0, 0)) ∧ Gr (fun _ => False) W wr
theorem ren_step {A : Nat → Prop} {b i : Nat} {vT : List Value} {k n k' n' : Int} {s s' : ByteArray} {bv bv' lv' : Value} {l : List Tr} {U : Tr} {wr w4 w5 : World} {us : List Value} {oa a5 : Option Addr} {oc cap5 : Nat} (hA : ∀ z, A z → z < b) (hW : W.heap.size = b)
 (h : RS A W b vT k s n bv l wr i us oa oc) (hU : l[i]? = some U) (g4 : Gr (fun _ => False) wr.drew w4) (rep4 : Rep (fun z => A z ∨ wr.drew.heap.size ≤ z) w4 (renV U) (trv k' s' n' bv' lv'))
 (hrow5 : w5.ownsRow (b + 3) 25 5 (.slice a5 (i + 1) cap5) (i + 1) (us.flatMap cellsOf ++ [.int .i64 k', .string s', .int .i64 n', bv', lv']))
 (hgr5 : (w4.alloc (.cells #[.int .i64 k', .string s', .int .i64 n', bv', lv'] 25)).grownBy w5 (Value.slice oa i oc).ownBlock)
 (hloc5 : (Value.slice a5 (i + 1) cap5).ownBlock = (Value.slice oa i oc).ownBlock ∨ (Value.slice a5 (i + 1) cap5).ownBlock = some (w4.alloc (.cells #[.int .i64 k', .string s', .int .i64 n', bv', lv'] 25)).heap.size) :
 RS A W b vT k s n bv l (w5.setCell ⟨b + 2, 4, none⟩ (.slice a5 (i + 1) cap5)) (i + 1) (us ++ [trv k' s' n' bv' lv']) a5 cap5 := by
 obtain ⟨h1, h2, h3, h4, h5, h6⟩ := h
 have hl := (Array.getElem?_eq_some_iff.1 h1).1
 have G0 : Gr (fun _ => False) wr w4 := (Gr.drew wr _).trans g4
 have Ga := Gr.alloc w4 (.cells #[.int .i64 k', .string s', .int .i64 n', bv', lv'] 25) (fun _ => False)
 generalize w4.alloc _ = w4' at hgr5 hloc5 Ga
 have G4 := G0.trans Ga
 have hrow4 := ownsRow_gr h2 G4 (fun _ _ e => e)
 have rep' := rep_own (m := wr.heap.size) rep4 (fun z hz => by have := hA z hz; omega : ∀ z, A z → z < b + 3) h2 (Nat.le_refl _) hl
 have hT : Turn (fun z => (A z ∨ b + 3 ≤ z) ∧ (Value.slice oa i oc).ownBlock ≠ some z) (fun z => (A z ∨ b + 3 ≤ z) ∧ (Value.slice oa i oc).ownBlock ≠ some z) w4 w4' := fun z hz hl => ⟨hz, Ga.block z hl (fun e => e)⟩
 have hT' : Turn (fun z => (A z ∨ b + 3 ≤ z) ∧ (Value.slice oa i oc).ownBlock ≠ some z) (fun z => (A z ∨ b + 3 ≤ z) ∧ (Value.slice oa i oc).ownBlock ≠ some z) wr w4' := fun z hz hl => ⟨hz, G4.block z hl (fun e => e)⟩
 have hs4 := G4.size
 have hR := ren_grown (A := A) (base := b + 3) (fun z hz => by have := hA z hz; omega) (by omega) (h3.out.turn hT') (rep'.turn hT) hgr5 hloc5
 have G5 : Gr (fun z => b + 3 ≤ z) w4' w5 := Gr.of_grown hgr5 (fun z e => (ownsRow_lt hrow4 z e).1)
 have Gs : Gr (fun z => z = b + 2) w5 (w5.setCell ⟨b + 2, 4, none⟩ (.slice a5 (i + 1) cap5)) := Gr.set _ _ _ rfl
 have k1 := G5.keep (G4.keep h1 (fun e => e)) (by omega)
 have k4 := G5.keep (G4.keep h4 (fun e => e)) (by omega)
 have k5 := G5.keep (G4.keep h5 (fun e => e)) (by omega)
 refine ⟨heap_setCell_same w5 (b + 2) 4 _ 25 _ k1, ?_, ?_, Gs.keep k4 (by omega), Gs.keep k5 (by omega), ?_⟩
 · have := ownsRow_gr hrow5 Gs (fun z hz e => by omega)
   rw [List.flatMap_append]
   exact this
 · show Reps _ _ _ _
   rw [renL_at hU]
   exact hR.turn (fun z hz hl => ⟨hz, Gs.block z hl (fun e => by rcases hz.1 with h | h; have := hA z h; omega; omega)⟩)
 · exact ((h6.trans G4).trans' G5 (fun z hz e => by omega)).trans' Gs (fun z hz e => by omega)
theorem pre_kidr {k : Int} {s : ByteArray} {n : Int} {b : List Int} {l : List Tr} {T U : Tr} (hT : T ∈ l) (hU : U ∈ preL [T]) : U ∈ preL [.mk k s n b l] := by
 rw [preL_cons, preL_nil, List.append_nil]
 refine List.mem_cons_of_mem _ ?_
 obtain ⟨i, hi, rfl⟩ := List.getElem_of_mem hT
 have e : l = l.take i ++ ([l[i]] ++ l.drop (i + 1)) := by simp
 rw [e, preL_app, preL_app]
 exact List.mem_append_right _ (List.mem_append_left _ hU)
/-- The cells that the region reads. -/
abbrev SR (b g i : Nat) (x y : Value) (tk : Int) (tt : ByteArray) (tn : Int) (u v : Value) (w : World) : Prop := w.cell? ⟨b + 2, 4, none⟩ = some x ∧ w.cell? ⟨b, 4, none⟩ = some y ∧
 w.cell? ⟨g, i * 5, none⟩ = some (.int .i64 tk) ∧ w.cell? ⟨g, i * 5 + 1, none⟩ = some (.string tt) ∧ w.cell? ⟨g, i * 5 + 2, none⟩ = some (.int .i64 tn) ∧ w.cell? ⟨g, i * 5 + 3, none⟩ = some u ∧ w.cell? ⟨g, i * 5 + 4, none⟩ = some v
theorem SR.gr {S : Nat → Prop} {b g i : Nat} {x y : Value} {tk : Int} {tt : ByteArray} {tn : Int} {u v : Value} (h : SR b g i x y tk tt tn u v W) (gr : Gr S W W') (h1 : ¬ S (b + 2) := by exact fun e => e) (h2 : ¬ S b := by exact fun e => e) (h3 : ¬ S g := by exact fun e => e) : SR b g i x y tk tt tn u v W' := by
 obtain ⟨a1, a2, a3, a4, a5, a6, a7⟩ := h
 exact ⟨cell_gr a1 gr h1, cell_gr a2 gr h2, cell_gr a3 gr h3, cell_gr a4 gr h3, cell_gr a5 gr h3, cell_gr a6 gr h3, cell_gr a7 gr h3⟩
section
variable {ops : Array Oper} {o : Oper} {a : Act} {w : World} {K : Act → World → Prop} {Q : Exit → Act → World → Prop} {E : Prop}
/-- One tree put behind a row of the call's own, as one step of a region that draws. -/
theorem step_own (i0 : TypeInfo) (hi0 : Tryz.prog.info? 25 = some i0) (hzz : i0.zero = some (trv 0 e0 0 nl nl)) (hz1 : i0.size = 5) (hz2 : i0.bytes = 80) (hgd : o.guard = none) (x y : Operand) (ho : o.op = .call { callee := .builtin .append, args := #[x, y], argTypes := #[23, 23] }) (base : Nat) (v : Value) (n : Nat) (xs : List Value) (ad : Addr) (c : Nat) (news : List Value)
 (hx : a.eval x = v) (hy : a.eval y = .slice (some ad) 1 c) (hv : w.ownsRow base 25 5 v n xs) (hl : news.length = 1 * 5) (hnews : ∀ j u, news[j]? = some u → w.cell? (ad.add j) = some u) (h1 : ∀ u ∈ news, u.oneCell' = true) (hn : n + 1 ≤ 200000) (hb : base ≤ w.heap.size)
 (h : ∀ v' w', w'.ownsRow base 25 5 v' (n + 1) (xs ++ news) → w.grownBy w' v.ownBlock → (v'.ownBlock = v.ownBlock ∨ v'.ownBlock = some w.heap.size) → K (a.put o.dst v') w') :
 if Region.wanted o (yielded ops a.tmps) = true then Oper.wp Tryz.prog o a w K Q else E := by
 have hw : Region.wanted o (yielded ops a.tmps) = true := by simp [Region.wanted, hgd]
 rw [if_pos hw]
 obtain ⟨v', w', hr, hown', hgrow, _, hloc⟩ := run_append_own_at (P := Tryz.prog) w base 23 o.type 25 i0 (trv 0 e0 0 nl nl) 5 80 Tryz.underlying23 hi0 hzz hz1 hz2 rfl (by decide) v n xs hv ad 1 c news hl hnews h1 (by unfold maxLen; omega) (by omega) hb
 unfold Oper.wp execOp
 simp only [ho, resolve, invoke, builtin, Sem.run_bind, Sem.run_pure, Result.andThen_ok, List.map_toArray, List.map_cons, List.map_nil, hx, hy, hr]
 exact h v' w' hown' hgrow hloc
end
theorem ren_cells {A : Nat → Prop} {b i : Nat} {vT : List Value} {k n : Int} {s : ByteArray} {bv : Value} {l : List Tr} {wr w4' w5 : World} {us : List Value} {oa : Option Addr} {oc : Nat} {xs : List Value} (hA : ∀ z, A z → z < b) (hW : W.heap.size = b)
 (h : RS A W b vT k s n bv l wr i us oa oc) (G4 : Gr (fun _ => False) wr w4') (hgr5 : w4'.grownBy w5 (Value.slice oa i oc).ownBlock) (hrow4 : w4'.ownsRow (b + 3) 25 5 (.slice oa i oc) i xs) :
 (w5.cell? ⟨b + 2, 0, none⟩ = some (.int .i64 k) ∧ w5.cell? ⟨b + 2, 1, none⟩ = some (.string s) ∧ w5.cell? ⟨b + 2, 2, none⟩ = some (.int .i64 n) ∧ w5.cell? ⟨b + 2, 3, none⟩ = some bv ∧ w5.cell? ⟨b + 2, 4, none⟩ = some (.slice oa i oc)) ∧
 (w5.frozen? ⟨b + 2, 0, none⟩ = false ∧ w5.frozen? ⟨b + 2, 1, none⟩ = false ∧ w5.frozen? ⟨b + 2, 2, none⟩ = false ∧ w5.frozen? ⟨b + 2, 3, none⟩ = false ∧ w5.frozen? ⟨b + 2, 4, none⟩ = false) ∧ b + 2 < w5.heap.size := by
 have G5 : Gr (fun z => b + 3 ≤ z) w4' w5 := Gr.of_grown hgr5 (fun z e => (ownsRow_lt hrow4 z e).1)
 have k1 := G5.keep (G4.keep h.1 (fun e => e)) (by omega)
 obtain ⟨h1, h2⟩ := five_cells k1
 exact ⟨h1, h2, (Array.getElem?_eq_some_iff.1 k1).1⟩
theorem ren_end {A : Nat → Prop} {b : Nat} {vT : List Value} {k n : Int} {s : ByteArray} {bv : Value} {bs : List Int} {l : List Tr} {wr : World} {us : List Value} {oa : Option Addr} {oc : Nat} (hA : ∀ z, A z → z < b) (hW : W.heap.size = b)
 (h : RS A W b vT k s n bv l wr l.length us oa oc) (hB : RowB A W bs bv) :
 (set5 wr (b + 1) (.int .i64 k) (.string s) (.int .i64 n) bv (.slice oa l.length oc)).heap[b + 1]? = some (.cells #[.int .i64 k, .string s, .int .i64 n, bv, .slice oa l.length oc] 25 (0, 0)) ∧
 Rep (fun z => A z ∨ W.heap.size ≤ z) (set5 wr (b + 1) (.int .i64 k) (.string s) (.int .i64 n) bv (.slice oa l.length oc)) (.mk k s n bs (renL l)) (trv k s n bv (.slice oa l.length oc)) ∧ Gr (fun _ => False) W (set5 wr (b + 1) (.int .i64 k) (.string s) (.int .i64 n) bv (.slice oa l.length oc)) := by
 obtain ⟨h1, h2, h3, h4, h5, h6⟩ := h
 have gs := set5_gr wr (b + 1) (.int .i64 k) (.string s) (.int .i64 n) bv (.slice oa l.length oc)
 have hf := set5_heap h5 (.int .i64 k) (.string s) (.int .i64 n) bv (.slice oa l.length oc)
 generalize set5 wr (b + 1) (.int .i64 k) (.string s) (.int .i64 n) bv (.slice oa l.length oc) = wF at *
 refine ⟨hf, ⟨bv, _, us, rfl, ?_, ?_, ?_⟩, h6.trans' gs (fun z hz e => by omega)⟩
 · exact RowB.turn (fun z hz hl => ⟨.inl hz, (gs.block z (Nat.lt_of_lt_of_le hl h6.size) (fun e => by have := hA z hz; omega)).trans (h6.block z hl (fun e => e))⟩) hB
 · have hT := rowT_own (vs := us) h2
   rw [ren_len]
   exact RowT.turn (fun z hz hl => ⟨.inr (by omega), gs.block z hl (by omega)⟩) hT
 · have h3' := h3.out
   rw [List.take_length] at h3'
   exact h3'.turn (fun z hz hl => ⟨by rcases hz.1 with h | h; exact .inl h; exact .inr (by omega), gs.block z hl (fun e => by rcases hz.1 with h | h; have := hA z h; omega; omega)⟩)
set_option maxRecDepth 100000 in
set_option maxHeartbeats 16000000 in
theorem ren_node3 (n : Int) (bs : List Int) (l : List Tr) (ih : ∀ T ∈ l, RenOk T) : Calls23 (.mk 3 aV n bs l) (.mk 3 zV n bs (renL l)) := by
 intro W A v hRep hA hsz
 obtain ⟨ba, bc, la, lc, rfl, hk⟩ := hRep.parts
 obtain ⟨i0, hi0, hzz, hz1, hz2⟩ := info_parts info25
 have hl : l.length ≤ 100000 := hsz (.mk 3 aV n bs l) (by rw [preL_cons]; exact List.mem_cons_self ..)
 have hbs : RowB A W bs (.slice ba bs.length bc) := by
  obtain ⟨bv, lv, vs, e, q1, q2, q3⟩ := hRep
  simp only [trv, Value.agg.injEq, Array.mk.injEq, List.cons.injEq, and_true] at e
  obtain ⟨_, _, _, rfl, _⟩ := e
  exact q1
 have gA := Gr.alloc W (.cells #[.int .i64 3, .string aV, .int .i64 n, .slice ba bs.length bc, .slice la l.length lc] 25) (fun _ => False)
 go_enter Tryz.func23, Tryz.ntmps23
 go_wp2_with fail
 generalize hW3 : ((W.alloc _).alloc _).alloc _ = W3
 have g3 : Gr (fun _ => False) W W3 := hW3 ▸ ((Gr.alloc W _ _).trans (Gr.alloc _ _ _)).trans (Gr.alloc _ _ _)
 have b0 : W3.heap[W.heap.size]? = some (.cells #[.int .i64 3, .string aV, .int .i64 n, .slice ba bs.length bc, .slice la l.length lc] 25 (0, 0)) := hW3 ▸ (Gr.alloc _ _ (fun _ => False)).keep ((Gr.alloc _ _ (fun _ => False)).keep (heap_alloc_new W _) (fun e => e)) (fun e => e)
 have b1 : W3.heap[W.heap.size + 1]? = some (.cells zc 25 (0, 0)) := by
  have h := (Gr.alloc ((W.alloc (.cells #[.int .i64 3, .string aV, .int .i64 n, .slice ba bs.length bc, .slice la l.length lc] 25)).alloc (.cells zc 25)) (.cells #[.int .i64 3, .string zV, .int .i64 n, .slice ba bs.length bc, .slice none 0 0] 25) (fun _ => False)).keep (heap_alloc_new (W.alloc (.cells #[.int .i64 3, .string aV, .int .i64 n, .slice ba bs.length bc, .slice la l.length lc] 25)) (.cells zc 25)) (fun e => e)
  rw [← hW3]
  simpa using h
 have b2 : W3.heap[W.heap.size + 2]? = some (.cells #[.int .i64 3, .string zV, .int .i64 n, .slice ba bs.length bc, .slice none 0 0] 25 (0, 0)) := by
  have h := heap_alloc_new ((W.alloc (.cells #[.int .i64 3, .string aV, .int .i64 n, .slice ba bs.length bc, .slice la l.length lc] 25)).alloc (.cells zc 25)) (.cells #[.int .i64 3, .string zV, .int .i64 n, .slice ba bs.length bc, .slice none 0 0] 25)
  rw [← hW3]
  simpa using h
 have hz3 : W3.heap.size = W.heap.size + 3 := by rw [← hW3]; simp
 clear hW3 gA
 obtain ⟨b, hb⟩ : ∃ b, W.heap.size = b := ⟨_, rfl⟩
 rw [hb] at b0 b1 b2 hz3
 have hA3 : ∀ z, A z → z < b := fun z hz => by have := hA z hz; omega
 have R0 : RS A W b [.int .i64 3, .string aV, .int .i64 n, .slice ba bs.length bc, .slice la l.length lc] 3 zV n (.slice ba bs.length bc) l W3 0 [] none 0 := ⟨b2, World.ownsRow_nil _ _ _ _, (by show Reps _ _ _ _; rw [List.take_zero, renL_nil]; rfl), b0, b1, g3⟩
 rw [show W.heap.size + 1 + 1 = b + 2 by omega, hb]
 replace hk := Lib.hid hk
 replace ih := Lib.hid ih
 replace hA3 := Lib.hid hA3
 replace hsz := Lib.hid hsz
 replace hbs := Lib.hid hbs
 replace R0 := Lib.hid R0
 clear hA b0 b1 b2 hRep
 go_loopw [4] (fun u4 wr => ∃ (i : Nat) (us : List Value) (oa : Option Addr) (oc : Nat), i ≤ l.length ∧ u4 = .int .i64 (i : Int) ∧ Hid (RS A W b [.int .i64 3, .string aV, .int .i64 n, .slice ba bs.length bc, .slice la l.length lc] 3 zV n (.slice ba bs.length bc) l wr i us oa oc)) (fun u4 _ => l.length - (intOf u4).toNat)
 case atStart => exact ⟨0, [], none, 0, Nat.zero_le _, rfl, R0⟩
 case round =>
  obtain ⟨i, us, oa, oc, hi, rfl, hR⟩ := hrel
  obtain ⟨c2, c3, c4, c0, c1, hG⟩ := hR.out
  have Hb0 := Lib.hid c0
  obtain ⟨⟨m0, m1, m2, m3, m4⟩, f0, f1, f2, f3, f4⟩ := five_cells c2
  obtain ⟨⟨y0, y1, y2, y3, y4⟩, _⟩ := five_cells c0
  have hbl : b + 2 < wr.heap.size := (Array.getElem?_eq_some_iff.1 c2).1
  by_cases hlt : i < l.length
  ·
   have h1 : decide ((i : Int) < (l.length : Int)) = true := by simp; omega
   have hTi : l[i]? = some l[i] := List.getElem?_eq_getElem hlt
   obtain ⟨g, v', rfl, hgl, hgA, hRi, hci⟩ := hk.out i _ hTi
   have hAi := ih.out l[i] (List.getElem_mem hlt)
   have hszi : ∀ U ∈ preL [l[i]], U.l.length ≤ 100000 := fun U hU => hsz.out U (pre_kidr (List.getElem_mem hlt) hU)
   generalize l[i] = U at hRi hAi hszi hTi
   obtain ⟨tk, tt, tn, a1, n1, c1', a2, n2, c2', rfl⟩ := hRi.agg
   have k0 : wr.cell? ⟨g, i * 5, none⟩ = some (.int .i64 tk) := cell_gr (hci 0 _ rfl) hG (fun e => e)
   have k1 := cell_gr (hci 1 _ rfl) hG (fun e => e)
   have k2 := cell_gr (hci 2 _ rfl) hG (fun e => e)
   have k3 := cell_gr (hci 3 _ rfl) hG (fun e => e)
   have k4 := cell_gr (hci 4 _ rfl) hG (fun e => e)
   have hsG := hG.size
   have hlI : (l.length : Int) ≤ 100000 := by omega
   have Gd : Gr (fun _ => False) W wr.drew := hG.trans (Gr.drew _ _)
   have hRi' : Rep A wr.drew U (trv tk tt tn (.slice a1 n1 c1') (.slice a2 n2 c2')) := hRi.turn (fun z hz hl => ⟨hz, Gd.block z hl (fun e => e)⟩)
   have hcall := Lib.hid (hAi wr.drew A _ hRi' (fun z hz => by have := hA3.out z hz; have : wr.drew.heap.size = wr.heap.size := rfl; omega) hszi)
   have hgw : g < wr.heap.size := by omega
   have Hlt := Lib.hid hlt
   have Hi := Lib.hid hi
   have Htr := Lib.hid hTi
   have hcl := Lib.hid hci
   clear hAi hRi hci hTi hRi' hszi
   go_wp2_with fail
   refine wp_region_L (T := SR b g i (.slice oa i oc) (.slice (some ⟨g, 0, none⟩) l.length lc) tk tt tn (.slice a1 n1 c1') (.slice a2 n2 c2')) (L := 11) (by kernel_rfl) ?_
   have TS : SR b g i (.slice oa i oc) (.slice (some ⟨g, 0, none⟩) l.length lc) tk tt tn (.slice a1 n1 c1') (.slice a2 n2 c2') wr.drew := ⟨m4, y4, k0, k1, k2, k3, k4⟩
   have Gw : Gr (fun _ => False) wr.drew wr.drew := Gr.refl _ _
   have hsw : wr.drew.heap.size = wr.heap.size := rfl
   refine wpAnyL_at (i := 0) (v := ptr (b + 2) 4) (some 23) rfl rfl (by kernel_rfl) (by kernel_rfl) (by kernel_rfl) (by kernel_rfl) (by decide) (fun _ _ _ h => h) (Or.inl ⟨by rfl, ?_⟩) TS ?_
   · intro w hSw
     obtain ⟨hs1, hs2, e0, e1, e2, e3, e4⟩ := hSw
     have hgw := World.block_lt_of_cell? _ _ e0
     go_simp
     try (intro h; exfalso; omega)
   try simp only [Act.put, sa1, sa2, sa3]
   refine wpAnyL_at (i := 1) (v := .slice oa i oc) (some 24) rfl rfl (by kernel_rfl) (by kernel_rfl) (by kernel_rfl) (by kernel_rfl) (by decide) (fun _ _ _ h => h) (Or.inl ⟨by rfl, ?_⟩) TS ?_
   · intro w hSw
     obtain ⟨hs1, hs2, e0, e1, e2, e3, e4⟩ := hSw
     have hgw := World.block_lt_of_cell? _ _ e0
     go_simp
     try (intro h; exfalso; omega)
   try simp only [Act.put, sa1, sa2, sa3]
   refine wpAnyL_at (i := 2) (v := ptr b 4) (some 25) rfl rfl (by kernel_rfl) (by kernel_rfl) (by kernel_rfl) (by kernel_rfl) (by decide) (fun _ _ _ h => h) (Or.inl ⟨by rfl, ?_⟩) TS ?_
   · intro w hSw
     obtain ⟨hs1, hs2, e0, e1, e2, e3, e4⟩ := hSw
     have hgw := World.block_lt_of_cell? _ _ e0
     go_simp
     try (intro h; exfalso; omega)
   try simp only [Act.put, sa1, sa2, sa3]
   refine wpAnyL_at (i := 3) (v := .slice (some ⟨g, 0, none⟩) l.length lc) (some 26) rfl rfl (by kernel_rfl) (by kernel_rfl) (by kernel_rfl) (by kernel_rfl) (by decide) (fun _ _ _ h => h) (Or.inl ⟨by rfl, ?_⟩) TS ?_
   · intro w hSw
     obtain ⟨hs1, hs2, e0, e1, e2, e3, e4⟩ := hSw
     have hgw := World.block_lt_of_cell? _ _ e0
     go_simp
     try (intro h; exfalso; omega)
   try simp only [Act.put, sa1, sa2, sa3]
   refine wpAnyL_at (i := 4) (v := .int .i64 (i : Int)) (some 27) rfl rfl (by kernel_rfl) (by kernel_rfl) (by kernel_rfl) (by kernel_rfl) (by decide) (fun _ _ _ h => h) (Or.inl ⟨by rfl, ?_⟩) TS ?_
   · intro w hSw
     obtain ⟨hs1, hs2, e0, e1, e2, e3, e4⟩ := hSw
     have hgw := World.block_lt_of_cell? _ _ e0
     go_simp
     try (intro h; exfalso; omega)
   try simp only [Act.put, sa1, sa2, sa3]
   refine wpAnyL_at (i := 5) (v := ptr g (i * 5)) (some 28) rfl rfl (by kernel_rfl) (by kernel_rfl) (by kernel_rfl) (by kernel_rfl) (by decide) (fun _ _ _ h => h) (Or.inl ⟨by rfl, ?_⟩) TS ?_
   · intro w hSw
     obtain ⟨hs1, hs2, e0, e1, e2, e3, e4⟩ := hSw
     have hgw := World.block_lt_of_cell? _ _ e0
     go_simp
     try (intro h; exfalso; omega)
   try simp only [Act.put, sa1, sa2, sa3]
   refine wpAnyL_at (i := 6) (v := trv tk tt tn (.slice a1 n1 c1') (.slice a2 n2 c2')) (some 29) rfl rfl (by kernel_rfl) (by kernel_rfl) (by kernel_rfl) (by kernel_rfl) (by decide) (fun _ _ _ h => h) (Or.inl ⟨by rfl, ?_⟩) TS ?_
   · intro w hSw
     obtain ⟨hs1, hs2, e0, e1, e2, e3, e4⟩ := hSw
     have hgw := World.block_lt_of_cell? _ _ e0
     go_simp
     try (intro h; exfalso; omega)
   try simp only [Act.put, sa1, sa2, sa3]
   refine wpAnyL_one (i := 7) (by kernel_rfl) rfl (fun K hK => ?_)
   go_simp
   refine hcall.out.mono ?_
   rintro e w4 ⟨v4, rfl, rep4, g4⟩
   obtain ⟨tk', tt', tn', a1', n1', c1'', a2', n2', c2'', rfl⟩ := rep4.agg
   have TS : SR b g i (.slice oa i oc) (.slice (some ⟨g, 0, none⟩) l.length lc) tk tt tn (.slice a1 n1 c1') (.slice a2 n2 c2') w4 := TS.gr g4
   refine hK.out _ _ (fun _ => TS) ?_
   clear hK K
   try simp only [Act.put, sa1, sa2, sa3]
   refine wpAnyL_one (i := 8) (by kernel_rfl) rfl (fun K hK => ?_)
   go_simp
   have TS : SR b g i (.slice oa i oc) (.slice (some ⟨g, 0, none⟩) l.length lc) tk tt tn (.slice a1 n1 c1') (.slice a2 n2 c2') (w4.alloc (.cells #[.int .i64 tk', .string tt', .int .i64 tn', .slice a1' n1' c1'', .slice a2' n2' c2''] 25)) := TS.gr (Gr.alloc _ _ (fun _ => False))
   refine hK.out _ _ (fun _ => TS) ?_
   clear hK K
   try simp only [Act.put, sa1, sa2, sa3]
   refine wpAnyL_one (i := 9) (by kernel_rfl) rfl (fun K hK => ?_)
   have Ga := Gr.alloc w4 (.cells #[.int .i64 tk', .string tt', .int .i64 tn', .slice a1' n1' c1'', .slice a2' n2' c2''] 25) (fun _ => False)
   have G4 : Gr (fun _ => False) wr (w4.alloc (.cells #[.int .i64 tk', .string tt', .int .i64 tn', .slice a1' n1' c1'', .slice a2' n2' c2''] 25)) := ((Gr.drew wr _).trans g4).trans Ga
   have hrow4 := ownsRow_gr c3 G4 (fun _ _ e => e)
   refine step_own i0 hi0 hzz hz1 hz2 rfl _ _ rfl (b + 3) (.slice oa i oc) i (us.flatMap cellsOf) ⟨w4.heap.size, 0, none⟩ 1 [.int .i64 tk', .string tt', .int .i64 tn', .slice a1' n1' c1'', .slice a2' n2' c2''] rfl rfl hrow4 rfl (cell_five_new _ _ _ _ _ _ _) (by simp [Value.oneCell']) (by omega) (by have := G4.size; omega) ?_
   intro v5 w5 hrow5 hgr5 hloc5
   obtain ⟨a5, cap5, rfl⟩ := ownsRow_sv hrow5
   have G5 : Gr (fun z => b + 3 ≤ z) (w4.alloc (.cells #[.int .i64 tk', .string tt', .int .i64 tn', .slice a1' n1' c1'', .slice a2' n2' c2''] 25)) w5 := Gr.of_grown hgr5 (fun z e => (ownsRow_lt hrow4 z e).1)
   have hgb := hA3.out g hgA
   have TS : SR b g i (.slice oa i oc) (.slice (some ⟨g, 0, none⟩) l.length lc) tk tt tn (.slice a1 n1 c1') (.slice a2 n2 c2') w5 := TS.gr G5 (by omega) (by omega) (by omega)
   have hN := ren_step hA3.out hb hR.out Htr.out g4 rep4 hrow5 hgr5 hloc5
   obtain ⟨⟨d0, d1, d2, d3, d4⟩, ⟨e0, e1, e2, e3, e4⟩, hb5⟩ := ren_cells hA3.out hb hR.out G4 hgr5 hrow4
   refine hK.out _ _ (fun _ => TS) ?_
   clear hK K
   try simp only [Act.put, sa1, sa2, sa3]
   refine wpAnyL_one (i := 10) (by kernel_rfl) rfl (fun K hK => ?_)
   go_simp
   refine hK.out _ _ (fun _ => TS) ?_
   clear hK K
   try simp only [Act.put, sa1, sa2, sa3]
   refine wpAnyL_one (i := 11) (by kernel_rfl) rfl (fun K hK => ?_)
   go_simp
   refine hK.out _ _ (fun h => absurd rfl h) ?_
   clear hK K
   try simp only [Act.put, sa1, sa2, sa3]
   refine wpAnyL_done (by kernel_rfl) ?_ _
   refine NoPanic.normal ?_
   generalize w5.setCell ⟨b + 2, 4, none⟩ (.slice a5 (i + 1) cap5) = w6 at hN ⊢
   replace hN := Lib.hid hN
   clear hrow5 hgr5 hloc5 hrow4 G4 G5 Ga d0 d1 d2 d3 d4 e0 e1 e2 e3 e4 rep4 g4 TS Gw m0 m1 m2 m3 m4 f0 f1 f2 f3 f4 y0 y1 y2 y3 y4 k0 k1 k2 k3 k4
   go_wp2_with fail
   exact ⟨⟨i + 1, _, a5, cap5, Hlt.out, by go_num, hN⟩, by have := Hlt.out; simp [intOf]; omega⟩
  ·
   have h1 : decide ((i : Int) < (l.length : Int)) = false := by simp; omega
   obtain rfl : i = l.length := by omega
   obtain ⟨⟨z0, z1, z2, z3, z4⟩, w0, w1, w2, w3, w4⟩ := five_cells c1
   obtain ⟨hf, hRF, hGF⟩ := ren_end hA3.out hb hR.out hbs.out
   clear hR c4
   go_wp2_with fail
   obtain ⟨⟨p0, p1, p2, p3, p4⟩, _⟩ := five_cells hf
   exact bodyPost_ret (v := trv 3 zV n (.slice ba bs.length bc) (.slice oa l.length oc)) (by simp [results, Tryz.results23, go_sem, p0, p1, p2, p3, p4]) rfl ⟨_, rfl, hRF, hGF⟩
set_option maxRecDepth 100000 in
set_option maxHeartbeats 16000000 in
theorem ren_node4 (s : ByteArray) (hq : (s.toList == [65]) = false) (n : Int) (bs : List Int) (l : List Tr) (ih : ∀ T ∈ l, RenOk T) : Calls23 (.mk 3 s n bs l) (.mk 3 s n bs (renL l)) := by
 intro W A v hRep hA hsz
 obtain ⟨ba, bc, la, lc, rfl, hk⟩ := hRep.parts
 obtain ⟨i0, hi0, hzz, hz1, hz2⟩ := info_parts info25
 have hl : l.length ≤ 100000 := hsz (.mk 3 s n bs l) (by rw [preL_cons]; exact List.mem_cons_self ..)
 have hbs : RowB A W bs (.slice ba bs.length bc) := by
  obtain ⟨bv, lv, vs, e, q1, q2, q3⟩ := hRep
  simp only [trv, Value.agg.injEq, Array.mk.injEq, List.cons.injEq, and_true] at e
  obtain ⟨_, _, _, rfl, _⟩ := e
  exact q1
 have gA := Gr.alloc W (.cells #[.int .i64 3, .string s, .int .i64 n, .slice ba bs.length bc, .slice la l.length lc] 25) (fun _ => False)
 go_enter Tryz.func23, Tryz.ntmps23
 go_wp2_with fail
 generalize hW3 : ((W.alloc _).alloc _).alloc _ = W3
 have g3 : Gr (fun _ => False) W W3 := hW3 ▸ ((Gr.alloc W _ _).trans (Gr.alloc _ _ _)).trans (Gr.alloc _ _ _)
 have b0 : W3.heap[W.heap.size]? = some (.cells #[.int .i64 3, .string s, .int .i64 n, .slice ba bs.length bc, .slice la l.length lc] 25 (0, 0)) := hW3 ▸ (Gr.alloc _ _ (fun _ => False)).keep ((Gr.alloc _ _ (fun _ => False)).keep (heap_alloc_new W _) (fun e => e)) (fun e => e)
 have b1 : W3.heap[W.heap.size + 1]? = some (.cells zc 25 (0, 0)) := by
  have h := (Gr.alloc ((W.alloc (.cells #[.int .i64 3, .string s, .int .i64 n, .slice ba bs.length bc, .slice la l.length lc] 25)).alloc (.cells zc 25)) (.cells #[.int .i64 3, .string s, .int .i64 n, .slice ba bs.length bc, .slice none 0 0] 25) (fun _ => False)).keep (heap_alloc_new (W.alloc (.cells #[.int .i64 3, .string s, .int .i64 n, .slice ba bs.length bc, .slice la l.length lc] 25)) (.cells zc 25)) (fun e => e)
  rw [← hW3]
  simpa using h
 have b2 : W3.heap[W.heap.size + 2]? = some (.cells #[.int .i64 3, .string s, .int .i64 n, .slice ba bs.length bc, .slice none 0 0] 25 (0, 0)) := by
  have h := heap_alloc_new ((W.alloc (.cells #[.int .i64 3, .string s, .int .i64 n, .slice ba bs.length bc, .slice la l.length lc] 25)).alloc (.cells zc 25)) (.cells #[.int .i64 3, .string s, .int .i64 n, .slice ba bs.length bc, .slice none 0 0] 25)
  rw [← hW3]
  simpa using h
 have hz3 : W3.heap.size = W.heap.size + 3 := by rw [← hW3]; simp
 clear hW3 gA
 obtain ⟨b, hb⟩ : ∃ b, W.heap.size = b := ⟨_, rfl⟩
 rw [hb] at b0 b1 b2 hz3
 have hA3 : ∀ z, A z → z < b := fun z hz => by have := hA z hz; omega
 have R0 : RS A W b [.int .i64 3, .string s, .int .i64 n, .slice ba bs.length bc, .slice la l.length lc] 3 s n (.slice ba bs.length bc) l W3 0 [] none 0 := ⟨b2, World.ownsRow_nil _ _ _ _, (by show Reps _ _ _ _; rw [List.take_zero, renL_nil]; rfl), b0, b1, g3⟩
 rw [show W.heap.size + 1 + 1 = b + 2 by omega, hb]
 replace hk := Lib.hid hk
 replace ih := Lib.hid ih
 replace hA3 := Lib.hid hA3
 replace hsz := Lib.hid hsz
 replace hbs := Lib.hid hbs
 replace R0 := Lib.hid R0
 clear hA b0 b1 b2 hRep
 go_loopw [4] (fun u4 wr => ∃ (i : Nat) (us : List Value) (oa : Option Addr) (oc : Nat), i ≤ l.length ∧ u4 = .int .i64 (i : Int) ∧ Hid (RS A W b [.int .i64 3, .string s, .int .i64 n, .slice ba bs.length bc, .slice la l.length lc] 3 s n (.slice ba bs.length bc) l wr i us oa oc)) (fun u4 _ => l.length - (intOf u4).toNat)
 case atStart => exact ⟨0, [], none, 0, Nat.zero_le _, rfl, R0⟩
 case round =>
  obtain ⟨i, us, oa, oc, hi, rfl, hR⟩ := hrel
  obtain ⟨c2, c3, c4, c0, c1, hG⟩ := hR.out
  have Hb0 := Lib.hid c0
  obtain ⟨⟨m0, m1, m2, m3, m4⟩, f0, f1, f2, f3, f4⟩ := five_cells c2
  obtain ⟨⟨y0, y1, y2, y3, y4⟩, _⟩ := five_cells c0
  have hbl : b + 2 < wr.heap.size := (Array.getElem?_eq_some_iff.1 c2).1
  by_cases hlt : i < l.length
  ·
   have h1 : decide ((i : Int) < (l.length : Int)) = true := by simp; omega
   have hTi : l[i]? = some l[i] := List.getElem?_eq_getElem hlt
   obtain ⟨g, v', rfl, hgl, hgA, hRi, hci⟩ := hk.out i _ hTi
   have hAi := ih.out l[i] (List.getElem_mem hlt)
   have hszi : ∀ U ∈ preL [l[i]], U.l.length ≤ 100000 := fun U hU => hsz.out U (pre_kidr (List.getElem_mem hlt) hU)
   generalize l[i] = U at hRi hAi hszi hTi
   obtain ⟨tk, tt, tn, a1, n1, c1', a2, n2, c2', rfl⟩ := hRi.agg
   have k0 : wr.cell? ⟨g, i * 5, none⟩ = some (.int .i64 tk) := cell_gr (hci 0 _ rfl) hG (fun e => e)
   have k1 := cell_gr (hci 1 _ rfl) hG (fun e => e)
   have k2 := cell_gr (hci 2 _ rfl) hG (fun e => e)
   have k3 := cell_gr (hci 3 _ rfl) hG (fun e => e)
   have k4 := cell_gr (hci 4 _ rfl) hG (fun e => e)
   have hsG := hG.size
   have hlI : (l.length : Int) ≤ 100000 := by omega
   have Gd : Gr (fun _ => False) W wr.drew := hG.trans (Gr.drew _ _)
   have hRi' : Rep A wr.drew U (trv tk tt tn (.slice a1 n1 c1') (.slice a2 n2 c2')) := hRi.turn (fun z hz hl => ⟨hz, Gd.block z hl (fun e => e)⟩)
   have hcall := Lib.hid (hAi wr.drew A _ hRi' (fun z hz => by have := hA3.out z hz; have : wr.drew.heap.size = wr.heap.size := rfl; omega) hszi)
   have hgw : g < wr.heap.size := by omega
   have Hlt := Lib.hid hlt
   have Hi := Lib.hid hi
   have Htr := Lib.hid hTi
   have hcl := Lib.hid hci
   clear hAi hRi hci hTi hRi' hszi
   go_wp2_with fail
   refine wp_region_L (T := SR b g i (.slice oa i oc) (.slice (some ⟨g, 0, none⟩) l.length lc) tk tt tn (.slice a1 n1 c1') (.slice a2 n2 c2')) (L := 11) (by kernel_rfl) ?_
   have TS : SR b g i (.slice oa i oc) (.slice (some ⟨g, 0, none⟩) l.length lc) tk tt tn (.slice a1 n1 c1') (.slice a2 n2 c2') wr.drew := ⟨m4, y4, k0, k1, k2, k3, k4⟩
   have Gw : Gr (fun _ => False) wr.drew wr.drew := Gr.refl _ _
   have hsw : wr.drew.heap.size = wr.heap.size := rfl
   refine wpAnyL_at (i := 0) (v := ptr (b + 2) 4) (some 23) rfl rfl (by kernel_rfl) (by kernel_rfl) (by kernel_rfl) (by kernel_rfl) (by decide) (fun _ _ _ h => h) (Or.inl ⟨by rfl, ?_⟩) TS ?_
   · intro w hSw
     obtain ⟨hs1, hs2, e0, e1, e2, e3, e4⟩ := hSw
     have hgw := World.block_lt_of_cell? _ _ e0
     go_simp
     try (intro h; exfalso; omega)
   try simp only [Act.put, sa1, sa2, sa3]
   refine wpAnyL_at (i := 1) (v := .slice oa i oc) (some 24) rfl rfl (by kernel_rfl) (by kernel_rfl) (by kernel_rfl) (by kernel_rfl) (by decide) (fun _ _ _ h => h) (Or.inl ⟨by rfl, ?_⟩) TS ?_
   · intro w hSw
     obtain ⟨hs1, hs2, e0, e1, e2, e3, e4⟩ := hSw
     have hgw := World.block_lt_of_cell? _ _ e0
     go_simp
     try (intro h; exfalso; omega)
   try simp only [Act.put, sa1, sa2, sa3]
   refine wpAnyL_at (i := 2) (v := ptr b 4) (some 25) rfl rfl (by kernel_rfl) (by kernel_rfl) (by kernel_rfl) (by kernel_rfl) (by decide) (fun _ _ _ h => h) (Or.inl ⟨by rfl, ?_⟩) TS ?_
   · intro w hSw
     obtain ⟨hs1, hs2, e0, e1, e2, e3, e4⟩ := hSw
     have hgw := World.block_lt_of_cell? _ _ e0
     go_simp
     try (intro h; exfalso; omega)
   try simp only [Act.put, sa1, sa2, sa3]
   refine wpAnyL_at (i := 3) (v := .slice (some ⟨g, 0, none⟩) l.length lc) (some 26) rfl rfl (by kernel_rfl) (by kernel_rfl) (by kernel_rfl) (by kernel_rfl) (by decide) (fun _ _ _ h => h) (Or.inl ⟨by rfl, ?_⟩) TS ?_
   · intro w hSw
     obtain ⟨hs1, hs2, e0, e1, e2, e3, e4⟩ := hSw
     have hgw := World.block_lt_of_cell? _ _ e0
     go_simp
     try (intro h; exfalso; omega)
   try simp only [Act.put, sa1, sa2, sa3]
   refine wpAnyL_at (i := 4) (v := .int .i64 (i : Int)) (some 27) rfl rfl (by kernel_rfl) (by kernel_rfl) (by kernel_rfl) (by kernel_rfl) (by decide) (fun _ _ _ h => h) (Or.inl ⟨by rfl, ?_⟩) TS ?_
   · intro w hSw
     obtain ⟨hs1, hs2, e0, e1, e2, e3, e4⟩ := hSw
     have hgw := World.block_lt_of_cell? _ _ e0
     go_simp
     try (intro h; exfalso; omega)
   try simp only [Act.put, sa1, sa2, sa3]
   refine wpAnyL_at (i := 5) (v := ptr g (i * 5)) (some 28) rfl rfl (by kernel_rfl) (by kernel_rfl) (by kernel_rfl) (by kernel_rfl) (by decide) (fun _ _ _ h => h) (Or.inl ⟨by rfl, ?_⟩) TS ?_
   · intro w hSw
     obtain ⟨hs1, hs2, e0, e1, e2, e3, e4⟩ := hSw
     have hgw := World.block_lt_of_cell? _ _ e0
     go_simp
     try (intro h; exfalso; omega)
   try simp only [Act.put, sa1, sa2, sa3]
   refine wpAnyL_at (i := 6) (v := trv tk tt tn (.slice a1 n1 c1') (.slice a2 n2 c2')) (some 29) rfl rfl (by kernel_rfl) (by kernel_rfl) (by kernel_rfl) (by kernel_rfl) (by decide) (fun _ _ _ h => h) (Or.inl ⟨by rfl, ?_⟩) TS ?_
   · intro w hSw
     obtain ⟨hs1, hs2, e0, e1, e2, e3, e4⟩ := hSw
     have hgw := World.block_lt_of_cell? _ _ e0
     go_simp
     try (intro h; exfalso; omega)
   try simp only [Act.put, sa1, sa2, sa3]
   refine wpAnyL_one (i := 7) (by kernel_rfl) rfl (fun K hK => ?_)
   go_simp
   refine hcall.out.mono ?_
   rintro e w4 ⟨v4, rfl, rep4, g4⟩
   obtain ⟨tk', tt', tn', a1', n1', c1'', a2', n2', c2'', rfl⟩ := rep4.agg
   have TS : SR b g i (.slice oa i oc) (.slice (some ⟨g, 0, none⟩) l.length lc) tk tt tn (.slice a1 n1 c1') (.slice a2 n2 c2') w4 := TS.gr g4
   refine hK.out _ _ (fun _ => TS) ?_
   clear hK K
   try simp only [Act.put, sa1, sa2, sa3]
   refine wpAnyL_one (i := 8) (by kernel_rfl) rfl (fun K hK => ?_)
   go_simp
   have TS : SR b g i (.slice oa i oc) (.slice (some ⟨g, 0, none⟩) l.length lc) tk tt tn (.slice a1 n1 c1') (.slice a2 n2 c2') (w4.alloc (.cells #[.int .i64 tk', .string tt', .int .i64 tn', .slice a1' n1' c1'', .slice a2' n2' c2''] 25)) := TS.gr (Gr.alloc _ _ (fun _ => False))
   refine hK.out _ _ (fun _ => TS) ?_
   clear hK K
   try simp only [Act.put, sa1, sa2, sa3]
   refine wpAnyL_one (i := 9) (by kernel_rfl) rfl (fun K hK => ?_)
   have Ga := Gr.alloc w4 (.cells #[.int .i64 tk', .string tt', .int .i64 tn', .slice a1' n1' c1'', .slice a2' n2' c2''] 25) (fun _ => False)
   have G4 : Gr (fun _ => False) wr (w4.alloc (.cells #[.int .i64 tk', .string tt', .int .i64 tn', .slice a1' n1' c1'', .slice a2' n2' c2''] 25)) := ((Gr.drew wr _).trans g4).trans Ga
   have hrow4 := ownsRow_gr c3 G4 (fun _ _ e => e)
   refine step_own i0 hi0 hzz hz1 hz2 rfl _ _ rfl (b + 3) (.slice oa i oc) i (us.flatMap cellsOf) ⟨w4.heap.size, 0, none⟩ 1 [.int .i64 tk', .string tt', .int .i64 tn', .slice a1' n1' c1'', .slice a2' n2' c2''] rfl rfl hrow4 rfl (cell_five_new _ _ _ _ _ _ _) (by simp [Value.oneCell']) (by omega) (by have := G4.size; omega) ?_
   intro v5 w5 hrow5 hgr5 hloc5
   obtain ⟨a5, cap5, rfl⟩ := ownsRow_sv hrow5
   have G5 : Gr (fun z => b + 3 ≤ z) (w4.alloc (.cells #[.int .i64 tk', .string tt', .int .i64 tn', .slice a1' n1' c1'', .slice a2' n2' c2''] 25)) w5 := Gr.of_grown hgr5 (fun z e => (ownsRow_lt hrow4 z e).1)
   have hgb := hA3.out g hgA
   have TS : SR b g i (.slice oa i oc) (.slice (some ⟨g, 0, none⟩) l.length lc) tk tt tn (.slice a1 n1 c1') (.slice a2 n2 c2') w5 := TS.gr G5 (by omega) (by omega) (by omega)
   have hN := ren_step hA3.out hb hR.out Htr.out g4 rep4 hrow5 hgr5 hloc5
   obtain ⟨⟨d0, d1, d2, d3, d4⟩, ⟨e0, e1, e2, e3, e4⟩, hb5⟩ := ren_cells hA3.out hb hR.out G4 hgr5 hrow4
   refine hK.out _ _ (fun _ => TS) ?_
   clear hK K
   try simp only [Act.put, sa1, sa2, sa3]
   refine wpAnyL_one (i := 10) (by kernel_rfl) rfl (fun K hK => ?_)
   go_simp
   refine hK.out _ _ (fun _ => TS) ?_
   clear hK K
   try simp only [Act.put, sa1, sa2, sa3]
   refine wpAnyL_one (i := 11) (by kernel_rfl) rfl (fun K hK => ?_)
   go_simp
   refine hK.out _ _ (fun h => absurd rfl h) ?_
   clear hK K
   try simp only [Act.put, sa1, sa2, sa3]
   refine wpAnyL_done (by kernel_rfl) ?_ _
   refine NoPanic.normal ?_
   generalize w5.setCell ⟨b + 2, 4, none⟩ (.slice a5 (i + 1) cap5) = w6 at hN ⊢
   replace hN := Lib.hid hN
   clear hrow5 hgr5 hloc5 hrow4 G4 G5 Ga d0 d1 d2 d3 d4 e0 e1 e2 e3 e4 rep4 g4 TS Gw m0 m1 m2 m3 m4 f0 f1 f2 f3 f4 y0 y1 y2 y3 y4 k0 k1 k2 k3 k4
   go_wp2_with fail
   exact ⟨⟨i + 1, _, a5, cap5, Hlt.out, by go_num, hN⟩, by have := Hlt.out; simp [intOf]; omega⟩
  ·
   have h1 : decide ((i : Int) < (l.length : Int)) = false := by simp; omega
   obtain rfl : i = l.length := by omega
   obtain ⟨⟨z0, z1, z2, z3, z4⟩, w0, w1, w2, w3, w4⟩ := five_cells c1
   obtain ⟨hf, hRF, hGF⟩ := ren_end hA3.out hb hR.out hbs.out
   clear hR c4
   go_wp2_with fail
   obtain ⟨⟨p0, p1, p2, p3, p4⟩, _⟩ := five_cells hf
   exact bodyPost_ret (v := trv 3 s n (.slice ba bs.length bc) (.slice oa l.length oc)) (by simp [results, Tryz.results23, go_sem, p0, p1, p2, p3, p4]) rfl ⟨_, rfl, hRF, hGF⟩
set_option maxRecDepth 100000 in
set_option maxHeartbeats 16000000 in
theorem ren_node5 (k : Int) (s : ByteArray) (q3 : (k == 3) = false) (n : Int) (bs : List Int) (l : List Tr) (ih : ∀ T ∈ l, RenOk T) : Calls23 (.mk k s n bs l) (.mk k s n bs (renL l)) := by
 intro W A v hRep hA hsz
 obtain ⟨ba, bc, la, lc, rfl, hk⟩ := hRep.parts
 obtain ⟨i0, hi0, hzz, hz1, hz2⟩ := info_parts info25
 have hl : l.length ≤ 100000 := hsz (.mk k s n bs l) (by rw [preL_cons]; exact List.mem_cons_self ..)
 have hbs : RowB A W bs (.slice ba bs.length bc) := by
  obtain ⟨bv, lv, vs, e, q1, q2, q3⟩ := hRep
  simp only [trv, Value.agg.injEq, Array.mk.injEq, List.cons.injEq, and_true] at e
  obtain ⟨_, _, _, rfl, _⟩ := e
  exact q1
 have gA := Gr.alloc W (.cells #[.int .i64 k, .string s, .int .i64 n, .slice ba bs.length bc, .slice la l.length lc] 25) (fun _ => False)
 go_enter Tryz.func23, Tryz.ntmps23
 go_wp2_with fail
 generalize hW3 : ((W.alloc _).alloc _).alloc _ = W3
 have g3 : Gr (fun _ => False) W W3 := hW3 ▸ ((Gr.alloc W _ _).trans (Gr.alloc _ _ _)).trans (Gr.alloc _ _ _)
 have b0 : W3.heap[W.heap.size]? = some (.cells #[.int .i64 k, .string s, .int .i64 n, .slice ba bs.length bc, .slice la l.length lc] 25 (0, 0)) := hW3 ▸ (Gr.alloc _ _ (fun _ => False)).keep ((Gr.alloc _ _ (fun _ => False)).keep (heap_alloc_new W _) (fun e => e)) (fun e => e)
 have b1 : W3.heap[W.heap.size + 1]? = some (.cells zc 25 (0, 0)) := by
  have h := (Gr.alloc ((W.alloc (.cells #[.int .i64 k, .string s, .int .i64 n, .slice ba bs.length bc, .slice la l.length lc] 25)).alloc (.cells zc 25)) (.cells #[.int .i64 k, .string s, .int .i64 n, .slice ba bs.length bc, .slice none 0 0] 25) (fun _ => False)).keep (heap_alloc_new (W.alloc (.cells #[.int .i64 k, .string s, .int .i64 n, .slice ba bs.length bc, .slice la l.length lc] 25)) (.cells zc 25)) (fun e => e)
  rw [← hW3]
  simpa using h
 have b2 : W3.heap[W.heap.size + 2]? = some (.cells #[.int .i64 k, .string s, .int .i64 n, .slice ba bs.length bc, .slice none 0 0] 25 (0, 0)) := by
  have h := heap_alloc_new ((W.alloc (.cells #[.int .i64 k, .string s, .int .i64 n, .slice ba bs.length bc, .slice la l.length lc] 25)).alloc (.cells zc 25)) (.cells #[.int .i64 k, .string s, .int .i64 n, .slice ba bs.length bc, .slice none 0 0] 25)
  rw [← hW3]
  simpa using h
 have hz3 : W3.heap.size = W.heap.size + 3 := by rw [← hW3]; simp
 clear hW3 gA
 obtain ⟨b, hb⟩ : ∃ b, W.heap.size = b := ⟨_, rfl⟩
 rw [hb] at b0 b1 b2 hz3
 have hA3 : ∀ z, A z → z < b := fun z hz => by have := hA z hz; omega
 have R0 : RS A W b [.int .i64 k, .string s, .int .i64 n, .slice ba bs.length bc, .slice la l.length lc] k s n (.slice ba bs.length bc) l W3 0 [] none 0 := ⟨b2, World.ownsRow_nil _ _ _ _, (by show Reps _ _ _ _; rw [List.take_zero, renL_nil]; rfl), b0, b1, g3⟩
 rw [show W.heap.size + 1 + 1 = b + 2 by omega, hb]
 replace hk := Lib.hid hk
 replace ih := Lib.hid ih
 replace hA3 := Lib.hid hA3
 replace hsz := Lib.hid hsz
 replace hbs := Lib.hid hbs
 replace R0 := Lib.hid R0
 clear hA b0 b1 b2 hRep
 go_loopw [4] (fun u4 wr => ∃ (i : Nat) (us : List Value) (oa : Option Addr) (oc : Nat), i ≤ l.length ∧ u4 = .int .i64 (i : Int) ∧ Hid (RS A W b [.int .i64 k, .string s, .int .i64 n, .slice ba bs.length bc, .slice la l.length lc] k s n (.slice ba bs.length bc) l wr i us oa oc)) (fun u4 _ => l.length - (intOf u4).toNat)
 case atStart => exact ⟨0, [], none, 0, Nat.zero_le _, rfl, R0⟩
 case round =>
  obtain ⟨i, us, oa, oc, hi, rfl, hR⟩ := hrel
  obtain ⟨c2, c3, c4, c0, c1, hG⟩ := hR.out
  have Hb0 := Lib.hid c0
  obtain ⟨⟨m0, m1, m2, m3, m4⟩, f0, f1, f2, f3, f4⟩ := five_cells c2
  obtain ⟨⟨y0, y1, y2, y3, y4⟩, _⟩ := five_cells c0
  have hbl : b + 2 < wr.heap.size := (Array.getElem?_eq_some_iff.1 c2).1
  by_cases hlt : i < l.length
  ·
   have h1 : decide ((i : Int) < (l.length : Int)) = true := by simp; omega
   have hTi : l[i]? = some l[i] := List.getElem?_eq_getElem hlt
   obtain ⟨g, v', rfl, hgl, hgA, hRi, hci⟩ := hk.out i _ hTi
   have hAi := ih.out l[i] (List.getElem_mem hlt)
   have hszi : ∀ U ∈ preL [l[i]], U.l.length ≤ 100000 := fun U hU => hsz.out U (pre_kidr (List.getElem_mem hlt) hU)
   generalize l[i] = U at hRi hAi hszi hTi
   obtain ⟨tk, tt, tn, a1, n1, c1', a2, n2, c2', rfl⟩ := hRi.agg
   have k0 : wr.cell? ⟨g, i * 5, none⟩ = some (.int .i64 tk) := cell_gr (hci 0 _ rfl) hG (fun e => e)
   have k1 := cell_gr (hci 1 _ rfl) hG (fun e => e)
   have k2 := cell_gr (hci 2 _ rfl) hG (fun e => e)
   have k3 := cell_gr (hci 3 _ rfl) hG (fun e => e)
   have k4 := cell_gr (hci 4 _ rfl) hG (fun e => e)
   have hsG := hG.size
   have hlI : (l.length : Int) ≤ 100000 := by omega
   have Gd : Gr (fun _ => False) W wr.drew := hG.trans (Gr.drew _ _)
   have hRi' : Rep A wr.drew U (trv tk tt tn (.slice a1 n1 c1') (.slice a2 n2 c2')) := hRi.turn (fun z hz hl => ⟨hz, Gd.block z hl (fun e => e)⟩)
   have hcall := Lib.hid (hAi wr.drew A _ hRi' (fun z hz => by have := hA3.out z hz; have : wr.drew.heap.size = wr.heap.size := rfl; omega) hszi)
   have hgw : g < wr.heap.size := by omega
   have Hlt := Lib.hid hlt
   have Hi := Lib.hid hi
   have Htr := Lib.hid hTi
   have hcl := Lib.hid hci
   clear hAi hRi hci hTi hRi' hszi
   go_wp2_with fail
   refine wp_region_L (T := SR b g i (.slice oa i oc) (.slice (some ⟨g, 0, none⟩) l.length lc) tk tt tn (.slice a1 n1 c1') (.slice a2 n2 c2')) (L := 11) (by kernel_rfl) ?_
   have TS : SR b g i (.slice oa i oc) (.slice (some ⟨g, 0, none⟩) l.length lc) tk tt tn (.slice a1 n1 c1') (.slice a2 n2 c2') wr.drew := ⟨m4, y4, k0, k1, k2, k3, k4⟩
   have Gw : Gr (fun _ => False) wr.drew wr.drew := Gr.refl _ _
   have hsw : wr.drew.heap.size = wr.heap.size := rfl
   refine wpAnyL_at (i := 0) (v := ptr (b + 2) 4) (some 23) rfl rfl (by kernel_rfl) (by kernel_rfl) (by kernel_rfl) (by kernel_rfl) (by decide) (fun _ _ _ h => h) (Or.inl ⟨by rfl, ?_⟩) TS ?_
   · intro w hSw
     obtain ⟨hs1, hs2, e0, e1, e2, e3, e4⟩ := hSw
     have hgw := World.block_lt_of_cell? _ _ e0
     go_simp
     try (intro h; exfalso; omega)
   try simp only [Act.put, sa1, sa2, sa3]
   refine wpAnyL_at (i := 1) (v := .slice oa i oc) (some 24) rfl rfl (by kernel_rfl) (by kernel_rfl) (by kernel_rfl) (by kernel_rfl) (by decide) (fun _ _ _ h => h) (Or.inl ⟨by rfl, ?_⟩) TS ?_
   · intro w hSw
     obtain ⟨hs1, hs2, e0, e1, e2, e3, e4⟩ := hSw
     have hgw := World.block_lt_of_cell? _ _ e0
     go_simp
     try (intro h; exfalso; omega)
   try simp only [Act.put, sa1, sa2, sa3]
   refine wpAnyL_at (i := 2) (v := ptr b 4) (some 25) rfl rfl (by kernel_rfl) (by kernel_rfl) (by kernel_rfl) (by kernel_rfl) (by decide) (fun _ _ _ h => h) (Or.inl ⟨by rfl, ?_⟩) TS ?_
   · intro w hSw
     obtain ⟨hs1, hs2, e0, e1, e2, e3, e4⟩ := hSw
     have hgw := World.block_lt_of_cell? _ _ e0
     go_simp
     try (intro h; exfalso; omega)
   try simp only [Act.put, sa1, sa2, sa3]
   refine wpAnyL_at (i := 3) (v := .slice (some ⟨g, 0, none⟩) l.length lc) (some 26) rfl rfl (by kernel_rfl) (by kernel_rfl) (by kernel_rfl) (by kernel_rfl) (by decide) (fun _ _ _ h => h) (Or.inl ⟨by rfl, ?_⟩) TS ?_
   · intro w hSw
     obtain ⟨hs1, hs2, e0, e1, e2, e3, e4⟩ := hSw
     have hgw := World.block_lt_of_cell? _ _ e0
     go_simp
     try (intro h; exfalso; omega)
   try simp only [Act.put, sa1, sa2, sa3]
   refine wpAnyL_at (i := 4) (v := .int .i64 (i : Int)) (some 27) rfl rfl (by kernel_rfl) (by kernel_rfl) (by kernel_rfl) (by kernel_rfl) (by decide) (fun _ _ _ h => h) (Or.inl ⟨by rfl, ?_⟩) TS ?_
   · intro w hSw
     obtain ⟨hs1, hs2, e0, e1, e2, e3, e4⟩ := hSw
     have hgw := World.block_lt_of_cell? _ _ e0
     go_simp
     try (intro h; exfalso; omega)
   try simp only [Act.put, sa1, sa2, sa3]
   refine wpAnyL_at (i := 5) (v := ptr g (i * 5)) (some 28) rfl rfl (by kernel_rfl) (by kernel_rfl) (by kernel_rfl) (by kernel_rfl) (by decide) (fun _ _ _ h => h) (Or.inl ⟨by rfl, ?_⟩) TS ?_
   · intro w hSw
     obtain ⟨hs1, hs2, e0, e1, e2, e3, e4⟩ := hSw
     have hgw := World.block_lt_of_cell? _ _ e0
     go_simp
     try (intro h; exfalso; omega)
   try simp only [Act.put, sa1, sa2, sa3]
   refine wpAnyL_at (i := 6) (v := trv tk tt tn (.slice a1 n1 c1') (.slice a2 n2 c2')) (some 29) rfl rfl (by kernel_rfl) (by kernel_rfl) (by kernel_rfl) (by kernel_rfl) (by decide) (fun _ _ _ h => h) (Or.inl ⟨by rfl, ?_⟩) TS ?_
   · intro w hSw
     obtain ⟨hs1, hs2, e0, e1, e2, e3, e4⟩ := hSw
     have hgw := World.block_lt_of_cell? _ _ e0
     go_simp
     try (intro h; exfalso; omega)
   try simp only [Act.put, sa1, sa2, sa3]
   refine wpAnyL_one (i := 7) (by kernel_rfl) rfl (fun K hK => ?_)
   go_simp
   refine hcall.out.mono ?_
   rintro e w4 ⟨v4, rfl, rep4, g4⟩
   obtain ⟨tk', tt', tn', a1', n1', c1'', a2', n2', c2'', rfl⟩ := rep4.agg
   have TS : SR b g i (.slice oa i oc) (.slice (some ⟨g, 0, none⟩) l.length lc) tk tt tn (.slice a1 n1 c1') (.slice a2 n2 c2') w4 := TS.gr g4
   refine hK.out _ _ (fun _ => TS) ?_
   clear hK K
   try simp only [Act.put, sa1, sa2, sa3]
   refine wpAnyL_one (i := 8) (by kernel_rfl) rfl (fun K hK => ?_)
   go_simp
   have TS : SR b g i (.slice oa i oc) (.slice (some ⟨g, 0, none⟩) l.length lc) tk tt tn (.slice a1 n1 c1') (.slice a2 n2 c2') (w4.alloc (.cells #[.int .i64 tk', .string tt', .int .i64 tn', .slice a1' n1' c1'', .slice a2' n2' c2''] 25)) := TS.gr (Gr.alloc _ _ (fun _ => False))
   refine hK.out _ _ (fun _ => TS) ?_
   clear hK K
   try simp only [Act.put, sa1, sa2, sa3]
   refine wpAnyL_one (i := 9) (by kernel_rfl) rfl (fun K hK => ?_)
   have Ga := Gr.alloc w4 (.cells #[.int .i64 tk', .string tt', .int .i64 tn', .slice a1' n1' c1'', .slice a2' n2' c2''] 25) (fun _ => False)
   have G4 : Gr (fun _ => False) wr (w4.alloc (.cells #[.int .i64 tk', .string tt', .int .i64 tn', .slice a1' n1' c1'', .slice a2' n2' c2''] 25)) := ((Gr.drew wr _).trans g4).trans Ga
   have hrow4 := ownsRow_gr c3 G4 (fun _ _ e => e)
   refine step_own i0 hi0 hzz hz1 hz2 rfl _ _ rfl (b + 3) (.slice oa i oc) i (us.flatMap cellsOf) ⟨w4.heap.size, 0, none⟩ 1 [.int .i64 tk', .string tt', .int .i64 tn', .slice a1' n1' c1'', .slice a2' n2' c2''] rfl rfl hrow4 rfl (cell_five_new _ _ _ _ _ _ _) (by simp [Value.oneCell']) (by omega) (by have := G4.size; omega) ?_
   intro v5 w5 hrow5 hgr5 hloc5
   obtain ⟨a5, cap5, rfl⟩ := ownsRow_sv hrow5
   have G5 : Gr (fun z => b + 3 ≤ z) (w4.alloc (.cells #[.int .i64 tk', .string tt', .int .i64 tn', .slice a1' n1' c1'', .slice a2' n2' c2''] 25)) w5 := Gr.of_grown hgr5 (fun z e => (ownsRow_lt hrow4 z e).1)
   have hgb := hA3.out g hgA
   have TS : SR b g i (.slice oa i oc) (.slice (some ⟨g, 0, none⟩) l.length lc) tk tt tn (.slice a1 n1 c1') (.slice a2 n2 c2') w5 := TS.gr G5 (by omega) (by omega) (by omega)
   have hN := ren_step hA3.out hb hR.out Htr.out g4 rep4 hrow5 hgr5 hloc5
   obtain ⟨⟨d0, d1, d2, d3, d4⟩, ⟨e0, e1, e2, e3, e4⟩, hb5⟩ := ren_cells hA3.out hb hR.out G4 hgr5 hrow4
   refine hK.out _ _ (fun _ => TS) ?_
   clear hK K
   try simp only [Act.put, sa1, sa2, sa3]
   refine wpAnyL_one (i := 10) (by kernel_rfl) rfl (fun K hK => ?_)
   go_simp
   refine hK.out _ _ (fun _ => TS) ?_
   clear hK K
   try simp only [Act.put, sa1, sa2, sa3]
   refine wpAnyL_one (i := 11) (by kernel_rfl) rfl (fun K hK => ?_)
   go_simp
   refine hK.out _ _ (fun h => absurd rfl h) ?_
   clear hK K
   try simp only [Act.put, sa1, sa2, sa3]
   refine wpAnyL_done (by kernel_rfl) ?_ _
   refine NoPanic.normal ?_
   generalize w5.setCell ⟨b + 2, 4, none⟩ (.slice a5 (i + 1) cap5) = w6 at hN ⊢
   replace hN := Lib.hid hN
   clear hrow5 hgr5 hloc5 hrow4 G4 G5 Ga d0 d1 d2 d3 d4 e0 e1 e2 e3 e4 rep4 g4 TS Gw m0 m1 m2 m3 m4 f0 f1 f2 f3 f4 y0 y1 y2 y3 y4 k0 k1 k2 k3 k4
   go_wp2_with fail
   exact ⟨⟨i + 1, _, a5, cap5, Hlt.out, by go_num, hN⟩, by have := Hlt.out; simp [intOf]; omega⟩
  ·
   have h1 : decide ((i : Int) < (l.length : Int)) = false := by simp; omega
   obtain rfl : i = l.length := by omega
   obtain ⟨⟨z0, z1, z2, z3, z4⟩, w0, w1, w2, w3, w4⟩ := five_cells c1
   obtain ⟨hf, hRF, hGF⟩ := ren_end hA3.out hb hR.out hbs.out
   clear hR c4
   go_wp2_with fail
   obtain ⟨⟨p0, p1, p2, p3, p4⟩, _⟩ := five_cells hf
   exact bodyPost_ret (v := trv k s n (.slice ba bs.length bc) (.slice oa l.length oc)) (by simp [results, Tryz.results23, go_sem, p0, p1, p2, p3, p4]) rfl ⟨_, rfl, hRF, hGF⟩
theorem ren_node (k : Int) (s : ByteArray) (n : Int) (bs : List Int) (l : List Tr) (ih : ∀ T ∈ l, RenOk T) : RenOk (.mk k s n bs l) := by
 show Calls23 _ (renV _)
 rw [renV_mk]
 by_cases h3 : k = 3
 ·
  subst h3
  rw [rnS, if_pos rfl]
  by_cases hs : s = aV
  · subst hs
    rw [rn, if_pos rfl]
    exact ren_node3 n bs l ih
  ·
   rw [rn, if_neg hs]
   refine ren_node4 s ?_ n bs l ih
   rw [Bool.eq_false_iff]
   intro h
   exact hs (by
    have h1 := beq_iff_eq.1 h
    rw [ByteArray.toList_eq] at h1
    exact ByteArray.ext (Array.toList_inj.1 (by rw [h1])))
 · rw [rnS, if_neg h3]
   exact ren_node5 k s (by simpa using h3) n bs l ih
theorem ren_c (T : Tr) : RenOk T :=
 Tr.rec (motive_1 := fun T => RenOk T) (motive_2 := fun l => ∀ T ∈ l, RenOk T)
  (fun k s n b l ih => ren_node k s n b l ih) (fun T h => by cases h)
  (fun T l h1 h2 U hU => by
    rcases List.mem_cons.1 hU with rfl | hU
    · exact h1
    · exact h2 U hU) T
end Go.Proofs.YtjedbfbolifjjaaGreatDoor
