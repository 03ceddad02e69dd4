/-
  What a row's condition gives a walk: the table of Ops.
-/
import Derived.Test.YtgdadjmeeblfoaaDoorCC
import Derived.Test.YtgdadjmeeblfoaaDoorRows
import Derived.OpenShut
import Derived.ChangeMaps5
import Derived.Lay
import Derived.Stop.LaidErr
import Derived.Lib.LaidTab
import Derived.SevenTiedAt
import Derived.ProofKit
set_option linter.unusedVariables false
set_option linter.unusedSimpArgs false
namespace Go.Proofs.YtgdadjmeeblfoaaDoor
open Go.ChangeShapes Go.WideShapes Go.ChangeAt Go.RowKit Go.Maps Go.ChangeMaps
theorem Gr.below {S : Nat → Prop} {W W' : World} (h : Gr S W W') {N : Nat} (hN : N ≤ W.heap.size) (hs : ∀ i, S i → N ≤ i) : Below N W W' :=
  ⟨h.os, h.tape, h.output, h.size, fun k hk => h.block k (by omega) (fun e => by have := hs k e; omega)⟩
theorem own : ownKnob Tryd.prog.godebug = none := by kernel_rfl
def rowD {H : Type} (a b c d e f g h : Int) : DataW H := .agg [.lit (.int .i64 a), .lit (.int .i64 b), .lit (.int .i64 c), .lit (.int .i64 d), .lit (.int .i64 e), .lit (.int .i64 f), .lit (.int .i64 g), .lit (.int .i64 h)]
set_option maxRecDepth 100000 in
theorem row_of {H : Type} {enc : TypeId × Value → H} {w : World} {base : Nat} {sp : Nat → Bool} {held : Bool} {fuel : Nat} {cs : List Value} {p : List MemPlace} {a b c d e f g h : Int}
    (hd : DataW.trod enc Tryd.prog w base sp held fuel 75 cs = some (rowD a b c d e f g h, p)) : cs = [.int .i64 a, .int .i64 b, .int .i64 c, .int .i64 d, .int .i64 e, .int .i64 f, .int .i64 g, .int .i64 h] := by
  have c75 : Tryd.prog.cellsOf 75 = 8 := by kernel_rfl
  have c3 : Tryd.prog.cellsOf 3 = 1 := by kernel_rfl
  obtain ⟨xs, n, _, hx, hl, hlen, hf⟩ := DataW.trod_struct Tryd.underlying75 hd
  rw [c75] at hl
  match cs, hl, xs, hlen with
  | [c0, c1, c2, c3', c4, c5, c6, c7], _, [y0, y1, y2, y3, y4, y5, y6, y7], _ =>
    have k0 := hf 0 _ rfl
    have k1 := hf 1 _ rfl
    have k2 := hf 2 _ rfl
    have k3 := hf 3 _ rfl
    have k4 := hf 4 _ rfl
    have k5 := hf 5 _ rfl
    have k6 := hf 6 _ rfl
    have k7 := hf 7 _ rfl
    simp only [c3, List.drop_zero, List.drop_succ_cons, List.take_succ_cons, List.take_zero, List.getElem?_cons_zero, List.getElem?_cons_succ] at k0 k1 k2 k3 k4 k5 k6 k7
    obtain ⟨n0, e0', rfl, _⟩ := DataW.trod_int Tryd.underlying3 k0
    obtain ⟨n1, e1, rfl, _⟩ := DataW.trod_int Tryd.underlying3 k1
    obtain ⟨n2, e2, rfl, _⟩ := DataW.trod_int Tryd.underlying3 k2
    obtain ⟨n3, e3, rfl, _⟩ := DataW.trod_int Tryd.underlying3 k3
    obtain ⟨n4, e4, rfl, _⟩ := DataW.trod_int Tryd.underlying3 k4
    obtain ⟨n5, e5, rfl, _⟩ := DataW.trod_int Tryd.underlying3 k5
    obtain ⟨n6, e6, rfl, _⟩ := DataW.trod_int Tryd.underlying3 k6
    obtain ⟨n7, e7, rfl, _⟩ := DataW.trod_int Tryd.underlying3 k7
    simp only [rowD, Prod.mk.injEq, DataW.agg.injEq, List.map_cons, List.map_nil, List.cons.injEq, DataW.lit.injEq, Lit.int.injEq, true_and, and_true] at hx
    obtain ⟨⟨rfl, rfl, rfl, rfl, rfl, rfl, rfl, rfl⟩, _⟩ := hx
    cases e0'; cases e1; cases e2; cases e3; cases e4; cases e5; cases e6; cases e7
    rfl
theorem rows_of {H : Type} {enc : TypeId × Value → H} {w : World} {base : Nat} {sp : Nat → Bool} {held : Bool} {fuel : Nat} {cs : List Value} {zs : List (DataW H)} {p : List MemPlace}
    (h : DataW.trod enc Tryd.prog w base sp held fuel 76 cs = some (.agg zs, p)) (i : Nat) (z : DataW H) (hz : zs[i]? = some z) : ∃ fuel p, DataW.trod enc Tryd.prog w base sp held fuel 75 ((cs.drop (i * 8)).take 8) = some (z, p) := by
  have c76 : Tryd.prog.cellsOf 76 = 160 := by kernel_rfl
  have c75 : Tryd.prog.cellsOf 75 = 8 := by kernel_rfl
  cases fuel with
  | zero => simp [DataW.trod] at h
  | succ fuel =>
    simp only [DataW.trod, Tryd.underlying76, c75, c76] at h
    split at h
    · obtain ⟨xs, hm, hx⟩ := Option.map_eq_some_iff.1 h
      have hxs : xs.map (·.1) = zs := by
        have := congrArg Prod.fst hx
        simpa using this
      have hxl : xs.length = 20 := by simpa using Lib.mapM_length hm
      have hi : i < 20 := by
        have := (List.getElem?_eq_some_iff.1 hz).1
        rw [← hxs, List.length_map] at this
        omega
      obtain ⟨b, hb, hf⟩ := Lib.mapM_at hm i i (by simp [hi])
      rw [← hxs, List.getElem?_map, hb] at hz
      simp only [Option.map_some, Option.some.injEq] at hz
      subst hz
      exact ⟨fuel, b.2, hf⟩
    · cases h
theorem get_row {W : World} {cs : List Value} {t : TypeId} {f : Nat × Nat} {q : Nat} {a b c d e g h i : Int} (hh : W.heap[0]? = some (.cells cs.toArray t f)) (hr : (cs.drop q).take 8 = [.int .i64 a, .int .i64 b, .int .i64 c, .int .i64 d, .int .i64 e, .int .i64 g, .int .i64 h, .int .i64 i]) :
    ∀ j v, [Value.int .i64 a, .int .i64 b, .int .i64 c, .int .i64 d, .int .i64 e, .int .i64 g, .int .i64 h, .int .i64 i][j]? = some v → W.cell? ⟨0, q + j, none⟩ = some v := fun j v hv => by
  unfold World.cell?
  rw [hh]
  show (cs.toArray)[q + j]? = some v
  rw [← hr, List.getElem?_take] at hv
  split at hv
  · simpa [List.getElem?_drop] using hv
  · cases hv
theorem ot_of_head {W : World} {name : String} {rest : List (String × DataW Unit)} (hg : Tryd.prog.globalNamed name = some 0)
    (h : laidMet Tryd.prog ((name, Rows.laid_rookery_code_ops) :: rest) W) : Ot W := by
  obtain ⟨ps, ⟨g', t', cs, fuel, p, q, hg', ht', hvar, hd, _, _⟩, _⟩ := h
  obtain rfl := Option.some.inj (hg.symm.trans hg')
  obtain rfl := Option.some.inj ((show (Tryd.prog.globals[0]?).map (·.type) = some 76 by kernel_rfl).symm.trans ht')
  obtain ⟨f1, p1, r1⟩ := rows_of hd 1 (rowD 0 0 0 1 0 1 0 1) rfl
  obtain ⟨f9, p9, r9⟩ := rows_of hd 9 (rowD 2 0 0 0 0 0 0 2) rfl
  obtain ⟨f12, p12, r12⟩ := rows_of hd 12 (rowD 0 0 0 0 1 0 0 0) rfl
  have h1 := row_of r1
  have h9 := row_of r9
  have h12 := row_of r12
  unfold World.var? at hvar
  rw [hg, Option.bind_some] at hvar
  split at hvar
  · rename_i c t f hh
    have e9 := Option.some.inj hvar
    have hh' : W.heap[0]? = some (.cells cs.toList.toArray t f) := by rw [← e9]; simpa using hh
    have k1 := get_row hh' h1
    have k9 := get_row hh' h9
    have k12 := get_row hh' h12
    exact ⟨⟨⟨k1 0 _ rfl, k1 1 _ rfl, k1 2 _ rfl, k1 3 _ rfl⟩, k1 4 _ rfl, k1 5 _ rfl, k1 6 _ rfl, k1 7 _ rfl⟩, ⟨⟨k9 0 _ rfl, k9 1 _ rfl, k9 2 _ rfl, k9 3 _ rfl⟩, k9 4 _ rfl, k9 5 _ rfl, k9 6 _ rfl, k9 7 _ rfl⟩, ⟨⟨k12 0 _ rfl, k12 1 _ rfl, k12 2 _ rfl, k12 3 _ rfl⟩, k12 4 _ rfl, k12 5 _ rfl, k12 6 _ rfl, k12 7 _ rfl⟩⟩
  · cases hvar
theorem ot_of_laid {W : World} (h : laidMetH Tryd.prog Rows.codeSlotsRow.laid W) : Ot W := by
  rw [MakeChecks.laidMetH_plain _ _ _ (by kernel_rfl)] at h
  exact ot_of_head (by kernel_rfl) h.tail
end Go.Proofs.YtgdadjmeeblfoaaDoor
