/-
  What a row's condition gives a walk: the variables of the program and of the library that are listed there.
-/
import Derived.Test.YtjedbfbolifjjaaGreatDoorGN
import Derived.Test.YtjedbfbolifjjaaGreatDoorRows
import Derived.Test.YtjedbfbolifjjaaGreatDoorKC
import Derived.OpenShut
import Derived.ChangeMaps5
import Derived.Lay
import Derived.Stop.LaidErr
import Derived.Lib.LaidTab
import Derived.SevenTiedAt
import Derived.ProofKit
set_option linter.unusedVariables false
set_option linter.unusedSimpArgs false
namespace Go.Proofs.YtjedbfbolifjjaaGreatDoor
open Go.ChangeShapes Go.WideShapes Go.ChangeAt Go.RowKit Go.Maps Go.ChangeMaps
theorem Gr.below {S : Nat → Prop} {W W' : World} (h : Gr S W W') {N : Nat} (hN : N ≤ W.heap.size) (hs : ∀ i, S i → N ≤ i) : Below N W W' :=
 ⟨h.os, h.tape, h.output, h.size, fun k hk => h.block k (by omega) (fun e => by have := hs k e; omega)⟩
theorem own : ownKnob Tryz.prog.godebug = none := by kernel_rfl
theorem gR : Tryz.prog.globalNamed "strconv.ErrRange" = some 3 := by kernel_rfl
theorem tR : (Tryz.prog.globals[3]?).map (·.type) = some 109 := by kernel_rfl

theorem er_of_laid {W : World} (h : laidMetH Tryz.prog Rows.checkTablesRow.laid W) : Er W := by
 rw [MakeChecks.laidMetH_plain _ _ _ (by kernel_rfl)] at h
 have h3 := h.tail.tail.tail
 obtain ⟨a, s, hv, -, -, -⟩ := laid_sentinel h3 gR tR Tryz.underlying109 (fun u hu => typeName_ptr_named (nm := "errors.errorString") (by kernel_rfl) (by kernel_rfl) (by decide) u (hu.trans (congrArg some (by decide)))) Tryz.underlying141 Tryz.underlying143 rfl rfl Tryz.underlying9 (by kernel_rfl) (by kernel_rfl)
 refine ⟨141, .pointer (some a), ?_⟩
 have := World.var?_cell gR hv 0
 simpa using this

theorem tab_of {W : World} {n : String} {g : Nat} {k : IntKind} {l : List Int} (hg : Tryz.prog.globalNamed n = some g) (h : Lib.TabIs Tryz.prog W n k l) : ∃ t f, W.heap[g]? = some (.cells (l.map (Value.int k)).toArray t f) := by
 unfold Lib.TabIs World.var? at h
 rw [hg, Option.bind_some] at h
 split at h
 · rename_i cs t f hh
   cases h
   exact ⟨t, f, hh⟩
 · cases h
theorem asc_eq : (Rows.laid_strings_asciiSpace : DataW Unit) = Lib.tabData .u8 asL := by kernel_rfl
theorem asc_of_laid {W : World} (h : laidMetH Tryz.prog Rows.checkTablesRow.laid W) : ∃ t f, W.heap[5]? = some (.cells (asL.map (Value.int .u8)).toArray t f) := by
 rw [MakeChecks.laidMetH_plain _ _ _ (by kernel_rfl)] at h
 have h6 := h.tail.tail.tail.tail.tail.tail
 rw [asc_eq] at h6
 exact tab_of (by kernel_rfl) (Lib.tabIs_of_head (g := 5) (by kernel_rfl) (by kernel_rfl) Tryz.underlying145 Tryz.underlying5 (by kernel_rfl) (by kernel_rfl) h6)

/-- An array of texts that reads as a list of texts holds them, cell for cell. -/
theorem cells_of_strs {H : Type} {enc : TypeId × Value → H} {P : Program} {w : World} {base : Nat} {sp : Nat → Bool} {held : Bool} {fuel : Nat} {t e : TypeId} {n : Nat} {cs : List Value} {zs : List (List UInt8)} {p : List MemPlace}
 (ht : P.underlying t = some (.array n e)) (he : P.underlying e = some .string) (hce : P.cellsOf e = 1) (hct : P.cellsOf t = n)
 (h : DataW.trod enc P w base sp held fuel t cs = some (.agg (zs.map fun z => .lit (.string z)), p)) : cs = zs.map fun z => Value.string ⟨z.toArray⟩ := by
 cases fuel with
 | zero => simp [DataW.trod] at h
 | succ fuel =>
  simp only [DataW.trod, ht, hce, hct, Nat.mul_one] at h
  split at h
  ·
   rename_i hl
   obtain ⟨xs, hm, hx⟩ := Option.map_eq_some_iff.1 h
   have hxs : xs.map (·.1) = zs.map fun z => (DataW.lit (.string z) : DataW H) := by
    have := congrArg Prod.fst hx
    simpa using this
   have hxl : xs.length = n := by simpa using Lib.mapM_length hm
   have hzl : zs.length = n := by
    have := congrArg List.length hxs
    simp at this
    omega
   apply List.ext_getElem?
   intro i
   by_cases hi : i < n
   ·
    obtain ⟨b, hb, hf⟩ := Lib.mapM_at hm i i (by simp [hi])
    obtain ⟨z, hc, rfl, _⟩ := DataW.trod_string he hf
    have h1 : cs[i]? = some (.string z) := by
     have := congrArg (·[0]?) hc
     simpa [List.getElem?_take, List.getElem?_drop] using this
    have h2 : (xs.map (·.1))[i]? = some (DataW.lit (.string z.data.toList) : DataW H) := by simp [hb]
    rw [hxs] at h2
    simp only [List.getElem?_map, Option.map_eq_some_iff, DataW.lit.injEq, Lit.string.injEq] at h2
    obtain ⟨z', hz', rfl⟩ := h2
    simp [h1, hz']
   · rw [List.getElem?_eq_none (by omega), List.getElem?_eq_none (by simp; omega)]
  · cases h
def sgZ : List (List UInt8) := signs.map fun l => l.map fun c => UInt8.ofNat c.toNat
theorem sg_eq : (Rows.laid_rookery_lex_signs : DataW Unit) = .agg (sgZ.map fun z => .lit (.string z)) := by kernel_rfl
theorem sgC_eq : (sgZ.map fun z => Value.string ⟨z.toArray⟩).toArray = sgC := by kernel_rfl
theorem sg_of_head {W : World} {name : String} {rest : List (String × DataW Unit)} (hg : Tryz.prog.globalNamed name = some 1)
 (h : laidMet Tryz.prog ((name, .agg (sgZ.map fun z => .lit (.string z))) :: rest) W) : Sg W := by
 obtain ⟨ps, ⟨g', t', cs, fuel, p, q, hg', ht', hvar, hd, _, _⟩, _⟩ := h
 obtain rfl := Option.some.inj (hg.symm.trans hg')
 obtain rfl := Option.some.inj ((show (Tryz.prog.globals[1]?).map (·.type) = some 114 by kernel_rfl).symm.trans ht')
 have hc := cells_of_strs Tryz.underlying114 Tryz.underlying9 (by kernel_rfl) (by kernel_rfl) hd
 unfold World.var? at hvar
 rw [hg, Option.bind_some] at hvar
 split at hvar
 · rename_i c t f hh
   cases hvar
   refine ⟨t, f, ?_⟩
   rw [← sgC_eq, ← hc]
   simpa using hh
 · cases hvar
theorem sg_of_laid {W : World} (h : laidMetH Tryz.prog Rows.checkTablesRow.laid W) : Sg W := by
 rw [MakeChecks.laidMetH_plain _ _ _ (by kernel_rfl)] at h
 have h5 := h.tail.tail.tail.tail.tail.tail.tail.tail
 rw [sg_eq] at h5
 exact sg_of_head (by kernel_rfl) h5
def lvZ : List (List UInt8) := [lw0.data.toList, lw1.data.toList, lw2.data.toList]
theorem lv_eq : (Rows.laid_rookery_gram_levels : DataW Unit) = .agg (lvZ.map fun z => .lit (.string z)) := by kernel_rfl
theorem lvC_eq : (lvZ.map fun z => Value.string ⟨z.toArray⟩).toArray = #[.string lw0, .string lw1, .string lw2] := by kernel_rfl
theorem lv_of_head {W : World} {name : String} {rest : List (String × DataW Unit)} (hg : Tryz.prog.globalNamed name = some 4)
 (h : laidMet Tryz.prog ((name, .agg (lvZ.map fun z => .lit (.string z))) :: rest) W) : ∃ t f, W.heap[4]? = some (.cells #[.string lw0, .string lw1, .string lw2] t f) := by
 obtain ⟨ps, ⟨g', t', cs, fuel, p, q, hg', ht', hvar, hd, _, _⟩, _⟩ := h
 obtain rfl := Option.some.inj (hg.symm.trans hg')
 obtain rfl := Option.some.inj ((show (Tryz.prog.globals[4]?).map (·.type) = some 140 by kernel_rfl).symm.trans ht')
 have hc := cells_of_strs Tryz.underlying140 Tryz.underlying9 (by kernel_rfl) (by kernel_rfl) hd
 unfold World.var? at hvar
 rw [hg, Option.bind_some] at hvar
 split at hvar
 · rename_i c t f hh
   cases hvar
   refine ⟨t, f, ?_⟩
   rw [← lvC_eq, ← hc]
   simpa using hh
 · cases hvar
theorem lv_of_laid {W : World} (h : laidMetH Tryz.prog Rows.checkTablesRow.laid W) : Lv W := by
 refine ⟨?_, asc_of_laid h⟩
 rw [MakeChecks.laidMetH_plain _ _ _ (by kernel_rfl)] at h
 have h7 := h.tail.tail.tail.tail.tail.tail.tail
 rw [lv_eq] at h7
 exact lv_of_head (by kernel_rfl) h7
/-- An array of heads that reads as a list of them holds them, cell for cell. -/
theorem flat_two : ∀ (zs : List (List UInt8 × Int)) (cs : List Value), cs.length = zs.length * 2 → (∀ i z, zs[i]? = some z → cs[i * 2]? = some (.string ⟨z.1.toArray⟩) ∧ cs[i * 2 + 1]? = some (.int .i64 z.2)) → cs = zs.flatMap fun z => [Value.string ⟨z.1.toArray⟩, .int .i64 z.2]
 | [], cs, hl, _ => by simpa using hl
 | z :: zs, a :: b :: r, hl, h => by
  obtain ⟨h0, h1⟩ := h 0 z rfl
  simp at h0 h1
  subst h0 h1
  rw [List.flatMap_cons, ← flat_two zs r (by simp at hl; omega) (fun i z' hz => by
   obtain ⟨k0, k1⟩ := h (i + 1) z' (by simpa using hz)
   rw [show (i + 1) * 2 = i * 2 + 1 + 1 by omega] at k0 k1
   simp only [List.getElem?_cons_succ] at k0 k1
   exact ⟨k0, k1⟩)]
  rfl
 | z :: zs, [], hl, _ => by simp at hl
 | z :: zs, [_], hl, _ => by simp at hl; omega
theorem cells_of_heads {H : Type} {enc : TypeId × Value → H} {w : World} {base : Nat} {sp : Nat → Bool} {held : Bool} {fuel : Nat} {cs : List Value} {zs : List (List UInt8 × Int)} {p : List MemPlace}
 (h : DataW.trod enc Tryz.prog w base sp held fuel 62 cs = some (.agg (zs.map fun z => .agg [.lit (.string z.1), .lit (.int .i64 z.2)]), p)) : cs = zs.flatMap fun z => [Value.string ⟨z.1.toArray⟩, .int .i64 z.2] := by
 have c62 : Tryz.prog.cellsOf 62 = 52 := by kernel_rfl
 have c61 : Tryz.prog.cellsOf 61 = 2 := by kernel_rfl
 have c9 : Tryz.prog.cellsOf 9 = 1 := by kernel_rfl
 have c3 : Tryz.prog.cellsOf 3 = 1 := by kernel_rfl
 cases fuel with
 | zero => simp [DataW.trod] at h
 | succ fuel =>
  simp only [DataW.trod, Tryz.underlying62, c61, c62] at h
  split at h
  ·
   rename_i hl
   obtain ⟨xs, hm, hx⟩ := Option.map_eq_some_iff.1 h
   have hxs : xs.map (·.1) = zs.map fun z => (DataW.agg [.lit (.string z.1), .lit (.int .i64 z.2)] : DataW H) := by
    have := congrArg Prod.fst hx
    simpa using this
   have hxl : xs.length = 26 := by simpa using Lib.mapM_length hm
   have hzl : zs.length = 26 := by
    have := congrArg List.length hxs
    simp at this
    omega
   refine flat_two zs cs (by omega) (fun i z hz => ?_)
   have hi : i < 26 := by have := (List.getElem?_eq_some_iff.1 hz).1; omega
   obtain ⟨b, hb, hf⟩ := Lib.mapM_at hm i i (by simp [hi])
   obtain ⟨y0, y1, n, rfl, _, g0, g1⟩ := trod_struct2 Tryz.underlying61 hf
   rw [c9] at g0
   rw [c3] at g1
   obtain ⟨s, hs, rfl, _⟩ := DataW.trod_string Tryz.underlying9 g0
   obtain ⟨m, hm', rfl, _⟩ := DataW.trod_int Tryz.underlying3 g1
   have e : (xs.map (·.1))[i]? = some (DataW.agg [.lit (.string s.data.toList), .lit (.int .i64 m)] : DataW H) := by simp [hb]
   rw [hxs] at e
   simp only [List.getElem?_map, hz, Option.map_some, Option.some.injEq, DataW.agg.injEq, List.cons.injEq, DataW.lit.injEq, Lit.string.injEq, Lit.int.injEq, true_and, and_true] at e
   obtain ⟨e1, e2⟩ := e
   rw [e1, e2]
   constructor
   · have := congrArg (·[0]?) hs
     simpa [List.getElem?_take, List.getElem?_drop] using this
   · have := congrArg (·[0]?) hm'
     simpa [List.getElem?_take, List.getElem?_drop] using this
  · cases h
def buZ : List (List UInt8 × Int) := (List.range 26).map fun k => ((bN k).data.toList, bA k)
theorem bu_eq : (Rows.laid_rookery_check_builtins : DataW Unit) = .agg (buZ.map fun z => .agg [.lit (.string z.1), .lit (.int .i64 z.2)]) := by kernel_rfl
theorem buC_eq : (buZ.flatMap fun z => [Value.string ⟨z.1.toArray⟩, .int .i64 z.2]).toArray = buC := by kernel_rfl
theorem bu_of_head {W : World} {name : String} {rest : List (String × DataW Unit)} (hg : Tryz.prog.globalNamed name = some 0)
 (h : laidMet Tryz.prog ((name, .agg (buZ.map fun z => .agg [.lit (.string z.1), .lit (.int .i64 z.2)])) :: rest) W) : Bu W := by
 obtain ⟨ps, ⟨g', t', cs, fuel, p, q, hg', ht', hvar, hd, _, _⟩, _⟩ := h
 obtain rfl := Option.some.inj (hg.symm.trans hg')
 obtain rfl := Option.some.inj ((show (Tryz.prog.globals[0]?).map (·.type) = some 62 by kernel_rfl).symm.trans ht')
 have hc := cells_of_heads hd
 unfold World.var? at hvar
 rw [hg, Option.bind_some] at hvar
 split at hvar
 · rename_i c t f hh
   cases hvar
   refine ⟨t, f, ?_⟩
   rw [← buC_eq, ← hc]
   simpa using hh
 · cases hvar
theorem bu_of_laid {W : World} (h : laidMetH Tryz.prog Rows.checkTablesRow.laid W) : Bu W := by
 rw [MakeChecks.laidMetH_plain _ _ _ (by kernel_rfl)] at h
 have h5 := h.tail.tail.tail.tail.tail.tail.tail.tail.tail
 rw [bu_eq] at h5
 exact bu_of_head (by kernel_rfl) h5
end Go.Proofs.YtjedbfbolifjjaaGreatDoor
