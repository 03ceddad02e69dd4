/-
  What a row's condition gives a walk: the variables of the program and of the library that are listed there.
-/
import Derived.Test.YtggkjkkbkpnkiaaGreatDoorGN
import Derived.Test.YtggkjkkbkpnkiaaGreatDoorRows
import Derived.OpenShut
import Derived.ChangeMaps5
import Derived.Lay
import Derived.Stop.LaidErr
import Derived.Lib.LaidTab
import Derived.SevenTiedAt
import Derived.ProofKit
set_option linter.unusedVariables false
set_option linter.unusedSimpArgs false
namespace Go.Proofs.YtggkjkkbkpnkiaaGreatDoor
open Go.ChangeShapes Go.WideShapes Go.ChangeAt Go.RowKit Go.Maps Go.ChangeMaps

theorem Gr.below {S : Nat → Prop} {W W' : World} (h : Gr S W W') {N : Nat} (hN : N ≤ W.heap.size) (hs : ∀ i, S i → N ≤ i) : Below N W W' :=
  ⟨h.os, h.tape, h.output, h.size, fun k hk => h.block k (by omega) (fun e => by have := hs k e; omega)⟩
theorem own : ownKnob Tryz.prog.godebug = none := by kernel_rfl
theorem gR : Tryz.prog.globalNamed "strconv.ErrRange" = some 3 := by kernel_rfl
theorem tR : (Tryz.prog.globals[3]?).map (·.type) = some 74 := by kernel_rfl

theorem er_of_laid {W : World} (h : laidMetH Tryz.prog Rows.gramTextsRow.laid W) : Er W := by
  rw [MakeChecks.laidMetH_plain _ _ _ (by kernel_rfl)] at h
  have h3 := h.tail.tail.tail
  obtain ⟨a, s, hv, -, -, -⟩ := laid_sentinel h3 gR tR Tryz.underlying74 (fun u hu => typeName_ptr_named (nm := "errors.errorString") (by kernel_rfl) (by kernel_rfl) (by decide) u (hu.trans (congrArg some (by decide)))) Tryz.underlying114 Tryz.underlying116 rfl rfl Tryz.underlying9 (by kernel_rfl) (by kernel_rfl)
  refine ⟨114, .pointer (some a), ?_⟩
  have := World.var?_cell gR hv 0
  simpa using this

theorem tab_of {W : World} {n : String} {g : Nat} {k : IntKind} {l : List Int} (hg : Tryz.prog.globalNamed n = some g) (h : Lib.TabIs Tryz.prog W n k l) : ∃ t f, W.heap[g]? = some (.cells (l.map (Value.int k)).toArray t f) := by
  unfold Lib.TabIs World.var? at h
  rw [hg, Option.bind_some] at h
  split at h
  · rename_i cs t f hh
    cases h
    exact ⟨t, f, hh⟩
  · cases h
theorem asc_eq : (Rows.laid_strings_asciiSpace : DataW Unit) = Lib.tabData .u8 asL := by kernel_rfl
theorem asc_of_laid {W : World} (h : laidMetH Tryz.prog Rows.gramTextsRow.laid W) : ∃ t f, W.heap[4]? = some (.cells (asL.map (Value.int .u8)).toArray t f) := by
  rw [MakeChecks.laidMetH_plain _ _ _ (by kernel_rfl)] at h
  have h6 := h.tail.tail.tail.tail.tail.tail
  rw [asc_eq] at h6
  exact tab_of (by kernel_rfl) (Lib.tabIs_of_head (g := 4) (by kernel_rfl) (by kernel_rfl) Tryz.underlying111 Tryz.underlying5 (by kernel_rfl) (by kernel_rfl) h6)

/-- An array of texts that reads as a list of texts holds them, cell for cell. -/
theorem cells_of_strs {H : Type} {enc : TypeId × Value → H} {P : Program} {w : World} {base : Nat} {sp : Nat → Bool} {held : Bool} {fuel : Nat} {t e : TypeId} {n : Nat} {cs : List Value} {zs : List (List UInt8)} {p : List MemPlace}
    (ht : P.underlying t = some (.array n e)) (he : P.underlying e = some .string) (hce : P.cellsOf e = 1) (hct : P.cellsOf t = n)
    (h : DataW.trod enc P w base sp held fuel t cs = some (.agg (zs.map fun z => .lit (.string z)), p)) : cs = zs.map fun z => Value.string ⟨z.toArray⟩ := by
  cases fuel with
  | zero => simp [DataW.trod] at h
  | succ fuel =>
    simp only [DataW.trod, ht, hce, hct, Nat.mul_one] at h
    split at h
    · rename_i hl
      obtain ⟨xs, hm, hx⟩ := Option.map_eq_some_iff.1 h
      have hxs : xs.map (·.1) = zs.map fun z => (DataW.lit (.string z) : DataW H) := by
        have := congrArg Prod.fst hx
        simpa using this
      have hxl : xs.length = n := by simpa using Lib.mapM_length hm
      have hzl : zs.length = n := by
        have := congrArg List.length hxs
        simp at this
        omega
      apply List.ext_getElem?
      intro i
      by_cases hi : i < n
      · obtain ⟨b, hb, hf⟩ := Lib.mapM_at hm i i (by simp [hi])
        obtain ⟨z, hc, rfl, _⟩ := DataW.trod_string he hf
        have h1 : cs[i]? = some (.string z) := by
          have := congrArg (·[0]?) hc
          simpa [List.getElem?_take, List.getElem?_drop] using this
        have h2 : (xs.map (·.1))[i]? = some (DataW.lit (.string z.data.toList) : DataW H) := by simp [hb]
        rw [hxs] at h2
        simp only [List.getElem?_map, Option.map_eq_some_iff, DataW.lit.injEq, Lit.string.injEq] at h2
        obtain ⟨z', hz', rfl⟩ := h2
        simp [h1, hz']
      · rw [List.getElem?_eq_none (by omega), List.getElem?_eq_none (by simp; omega)]
    · cases h
def sgZ : List (List UInt8) := signs.map fun l => l.map fun c => UInt8.ofNat c.toNat
theorem sg_eq : (Rows.laid_rookery_lex_signs : DataW Unit) = .agg (sgZ.map fun z => .lit (.string z)) := by kernel_rfl
theorem sgC_eq : (sgZ.map fun z => Value.string ⟨z.toArray⟩).toArray = sgC := by kernel_rfl
theorem sg_of_head {W : World} {name : String} {rest : List (String × DataW Unit)} (hg : Tryz.prog.globalNamed name = some 0)
    (h : laidMet Tryz.prog ((name, .agg (sgZ.map fun z => .lit (.string z))) :: rest) W) : Sg W := by
  obtain ⟨ps, ⟨g', t', cs, fuel, p, q, hg', ht', hvar, hd, _, _⟩, _⟩ := h
  obtain rfl := Option.some.inj (hg.symm.trans hg')
  obtain rfl := Option.some.inj ((show (Tryz.prog.globals[0]?).map (·.type) = some 80 by kernel_rfl).symm.trans ht')
  have hc := cells_of_strs Tryz.underlying80 Tryz.underlying9 (by kernel_rfl) (by kernel_rfl) hd
  unfold World.var? at hvar
  rw [hg, Option.bind_some] at hvar
  split at hvar
  · rename_i c t f hh
    cases hvar
    refine ⟨t, f, ?_⟩
    rw [← sgC_eq, ← hc]
    simpa using hh
  · cases hvar
theorem sg_of_laid {W : World} (h : laidMetH Tryz.prog Rows.gramTextsRow.laid W) : Sg W := by
  rw [MakeChecks.laidMetH_plain _ _ _ (by kernel_rfl)] at h
  have h5 := h.tail.tail.tail.tail.tail.tail.tail.tail
  rw [sg_eq] at h5
  exact sg_of_head (by kernel_rfl) h5
def lvZ : List (List UInt8) := [lw0.data.toList, lw1.data.toList, lw2.data.toList]
theorem lv_eq : (Rows.laid_rookery_gram_levels : DataW Unit) = .agg (lvZ.map fun z => .lit (.string z)) := by kernel_rfl
theorem lvC_eq : (lvZ.map fun z => Value.string ⟨z.toArray⟩).toArray = #[.string lw0, .string lw1, .string lw2] := by kernel_rfl
theorem lv_of_head {W : World} {name : String} {rest : List (String × DataW Unit)} (hg : Tryz.prog.globalNamed name = some 1)
    (h : laidMet Tryz.prog ((name, .agg (lvZ.map fun z => .lit (.string z))) :: rest) W) : ∃ t f, W.heap[1]? = some (.cells #[.string lw0, .string lw1, .string lw2] t f) := by
  obtain ⟨ps, ⟨g', t', cs, fuel, p, q, hg', ht', hvar, hd, _, _⟩, _⟩ := h
  obtain rfl := Option.some.inj (hg.symm.trans hg')
  obtain rfl := Option.some.inj ((show (Tryz.prog.globals[1]?).map (·.type) = some 103 by kernel_rfl).symm.trans ht')
  have hc := cells_of_strs Tryz.underlying103 Tryz.underlying9 (by kernel_rfl) (by kernel_rfl) hd
  unfold World.var? at hvar
  rw [hg, Option.bind_some] at hvar
  split at hvar
  · rename_i c t f hh
    cases hvar
    refine ⟨t, f, ?_⟩
    rw [← lvC_eq, ← hc]
    simpa using hh
  · cases hvar
theorem lv_of_laid {W : World} (h : laidMetH Tryz.prog Rows.gramTextsRow.laid W) : Lv W := by
  refine ⟨?_, asc_of_laid h⟩
  rw [MakeChecks.laidMetH_plain _ _ _ (by kernel_rfl)] at h
  have h7 := h.tail.tail.tail.tail.tail.tail.tail
  rw [lv_eq] at h7
  exact lv_of_head (by kernel_rfl) h7
end Go.Proofs.YtggkjkkbkpnkiaaGreatDoor
