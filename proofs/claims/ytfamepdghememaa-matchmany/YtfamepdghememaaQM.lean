/-
  Carried over from another seat of ours (QM).
-/
import Derived.Test.YtfamepdghememaaQL
set_option linter.unusedVariables false
set_option linter.unusedSimpArgs false
namespace Go.Proofs.Ytfamepdghememaa
open Go.RowKit Go.Maps Go.WideMaps
attribute [local go_sem] Oper.semAt_some
variable {S S' : Nat → Prop} {W W1 W' : World}
theorem mkm (n : Nat) (w : World) : (Instr.makeMap 48 (some (.int .i64 (n : Int)))).run Try.prog w = .ok (.map (some w.heap.size)) (w.alloc (.map #[] 0)) := by
  simp [Instr.makeMap, run_underlying Try.underlying48, asInt, Result.andThen]
  rfl
theorem mkm0 (w : World) : (Instr.makeMap 48 (some (.int .i64 0))).run Try.prog w = .ok (.map (some w.heap.size)) (w.alloc (.map #[] 0)) := mkm 0 w
theorem mkm1 (w : World) : (Instr.makeMap 48 (some (.int .i64 1))).run Try.prog w = .ok (.map (some w.heap.size)) (w.alloc (.map #[] 0)) := mkm 1 w
set_option maxRecDepth 20000 in
set_option maxHeartbeats 800000 in
theorem mo_none (W : World) (a : Option Addr) (c : Nat) : Calls Try.prog 15 #[.slice a 0 c] W fun e w' => ∃ mb, e = .returned (.tuple #[.map (some mb), .bool true]) ∧ W.heap.size ≤ mb ∧ Mo w' mb z9 0 (fun _ => none) ∧ Gr (fun _ => False) W w' := by
  have hmm := mkm0
  go_enter Try.func15, Try.ntmps15
  go_wp2_with fail
  go_loopw [17] (fun v wr => v = .int .i64 0 ∧ wr = W.alloc (.map #[] 0)) (fun _ _ => 0)
  case atStart => exact ⟨rfl, rfl⟩
  case round =>
    obtain ⟨rfl, rfl⟩ := hrel
    go_wp2_with fail
    exact bodyPost_ret (v := .tuple #[.map (some W.heap.size), .bool true]) (by simp [results, Try.results15, go_sem]) rfl ⟨_, rfl, Nat.le_refl _, Mo.new W z9, Gr.alloc _ _ _⟩
/-- A bind in memory. -/
def Bd (W : World) (kb o : Nat) (s : ByteArray) (t : Lf) (a1 : Option Addr) (c1 : Nat) (a2 : Option Addr) (c2 : Nat) : Prop := ∀ j u, (cellsOf (bd s t a1 c1 a2 c2))[j]? = some u → W.cell? ⟨kb, o + j, none⟩ = some u
theorem Bd.g {kb o : Nat} {s : ByteArray} {t : Lf} {a1 : Option Addr} {c1 : Nat} {a2 : Option Addr} {c2 : Nat} (h : Bd W kb o s t a1 c1 a2 c2) (g : Gr S W W') (hs : ¬ S kb) : Bd W' kb o s t a1 c1 a2 c2 := fun j u hu => by
  have := h j u hu
  rw [World.cell?_of_block (w' := W') (w := W) (a := ⟨kb, o + j, none⟩) (g.block kb (World.block_lt_of_cell? W _ this) hs)]
  exact this
theorem Bd.facts {kb o : Nat} {s : ByteArray} {t : Lf} {a1 : Option Addr} {c1 : Nat} {a2 : Option Addr} {c2 : Nat} (h : Bd W kb o s t a1 c1 a2 c2) :
    (W.cell? ⟨kb, o, none⟩ = some (.string s) ∧ W.cell? ⟨kb, o + 1, none⟩ = some (.int .i64 t.k) ∧ W.cell? ⟨kb, o + 2, none⟩ = some (.int .i64 t.n) ∧ W.cell? ⟨kb, o + 3, none⟩ = some (.complex .f64 t.x t.y) ∧ W.cell? ⟨kb, o + 4, none⟩ = some (.string t.s) ∧ W.cell? ⟨kb, o + 5, none⟩ = some (.int .i64 t.a) ∧ W.cell? ⟨kb, o + 6, none⟩ = some (.int .u32 t.c) ∧ W.cell? ⟨kb, o + 7, none⟩ = some (.int .u64 t.d) ∧ W.cell? ⟨kb, o + 8, none⟩ = some (.slice a1 0 c1) ∧ W.cell? ⟨kb, o + 9, none⟩ = some (.slice a2 0 c2)) ∧ kb < W.heap.size :=
  ⟨⟨h 0 _ rfl, h 1 _ rfl, h 2 _ rfl, h 3 _ rfl, h 4 _ rfl, h 5 _ rfl, h 6 _ rfl, h 7 _ rfl, h 8 _ rfl, h 9 _ rfl⟩, World.block_lt_of_cell? _ _ (h 0 _ rfl)⟩
abbrev one (s : ByteArray) (v : Value) : ByteArray → Option Value := ins (fun _ => none) s v
set_option maxRecDepth 20000 in
set_option maxHeartbeats 1600000 in
theorem mo_one (W : World) (kb c : Nat) (hc : 1 ≤ c) (s : ByteArray) (hs : isVar s = true) (hs2 : s.size ≤ 1000) (t : Lf) (ht : FaultOk (.mk t [] [])) (a1 : Option Addr) (c1 : Nat) (a2 : Option Addr) (c2 : Nat) (hB : Bd W kb 0 s t a1 c1 a2 c2) :
    Calls Try.prog 15 #[.slice (some ⟨kb, 0, none⟩) 1 c] W fun e w' => ∃ mb, e = .returned (.tuple #[.map (some mb), .bool true]) ∧ W.heap.size ≤ mb ∧ Mo w' mb z9 1 (one s (lv t a1 c1 a2 c2)) ∧ Gr (fun _ => False) W w' := by
  have hmm := mkm1
  have hcI : (1 : Int) ≤ (c : Int) := by omega
  have hnm := Lib.hid (fun w => name_c s w)
  rw [hs] at hnm
  have hck := Lib.hid (fun w => checkL t ht w a1 c1 a2 c2)
  have HB := Lib.hid hB
  obtain ⟨⟨f0, f1, f2, f3, f4, f5, f6, f7, f8, f9⟩, hlt⟩ := hB.facts
  have hkn : ¬ kb = W.heap.size := by omega
  have M0 := Mo.new W z9
  have ga := Gr.alloc (W.alloc (.map #[] 0)) (.cells #[.string s, .int .i64 t.k, .int .i64 t.n, .complex .f64 t.x t.y, .string t.s, .int .i64 t.a, .int .u32 t.c, .int .u64 t.d, .slice a1 0 c1, .slice a2 0 c2] 36) (fun _ => False)
  have M1 := M0.gr ga (fun e => e)
  have hlk := M1.look Try.underlying48 (zero31 _) s hs2
  have gb := Gr.alloc ((W.alloc (.map #[] 0)).alloc (.cells #[.string s, .int .i64 t.k, .int .i64 t.n, .complex .f64 t.x t.y, .string t.s, .int .i64 t.a, .int .u32 t.c, .int .u64 t.d, .slice a1 0 c1, .slice a2 0 c2] 36)) oz9 (fun _ => False)
  have HM2 := Lib.hid (M1.gr gb (fun e => e))
  have hX := heap_alloc_new (W.alloc (.map #[] 0)) (.cells #[.string s, .int .i64 t.k, .int .i64 t.n, .complex .f64 t.x t.y, .string t.s, .int .i64 t.a, .int .u32 t.c, .int .u64 t.d, .slice a1 0 c1, .slice a2 0 c2] 36)
  rw [World.size_alloc] at hX
  have HX := Lib.hid (gb.keep hX (fun e => e))
  have HG := Lib.hid (((Gr.alloc W (.map #[] 0) (fun _ => False)).trans ga).trans gb)
  clear hB ht hs M0 M1 ga gb hX
  obtain ⟨tk, tn, tx, ty, tS, ta, tc, td⟩ := t
  go_enter Try.func15, Try.ntmps15
  go_wp2_with fail
  go_loopw [17] (fun v wr => (v = .int .i64 0 ∧ wr = W.alloc (.map #[] 0)) ∨ (v = .int .i64 1 ∧ Hid (Mo wr W.heap.size z9 1 (one s (lv { k := tk, n := tn, x := tx, y := ty, s := tS, a := ta, c := tc, d := td } a1 c1 a2 c2)) ∧ Gr (fun _ => False) W wr))) (fun v _ => 1 - (intOf v).toNat)
  case atStart => exact .inl ⟨rfl, rfl⟩
  case round =>
    rcases hrel with ⟨rfl, rfl⟩ | ⟨rfl, hfin⟩
    · go_wp2_with fail
      refine (hnm.out _).mono ?_
      rintro e w1 ⟨rfl, rfl⟩
      go_wp2_with fail
      refine (hck.out _).mono ?_
      rintro e w3 ⟨rfl, g3⟩
      generalize World.alloc (World.alloc (World.alloc W _) _) _ = X2 at HM2 HX HG g3
      have M3 := HM2.out.gr g3 (fun e => e)
      obtain ⟨w4, hput, hM4, hg4, -⟩ := M3.put Try.underlying48 s hs2 (by omega) (ts tk tn tx ty tS ta tc td a1 0 c1 a2 0 c2)
      obtain ⟨⟨z0, z1, z2, z3, z4, z5, z6, z7, z8, z9'⟩, zf⟩ := ten (g3.keep HX.out (fun e => e))
      have l1 := (Array.getElem?_eq_some_iff.1 (g3.keep HX.out (fun e => e))).1
      have HM4 : Hid (Mo w4 W.heap.size z9 1 (one s (ts tk tn tx ty tS ta tc td a1 0 c1 a2 0 c2))) := Lib.hid hM4
      have HG4 := Lib.hid ((HG.out.trans g3).trans' hg4 (fun i hi e => by omega))
      clear M3 hM4 hg4 g3 HM2 HX HG hlk
      go_wp2_with fail
      exact ⟨.inr ⟨rfl, Lib.hid ⟨HM4.out, HG4.out⟩⟩, by simp [intOf]⟩
    · go_wp2_with fail
      exact bodyPost_ret (v := .tuple #[.map (some W.heap.size), .bool true]) (by simp [results, Try.results15, go_sem]) rfl ⟨_, rfl, Nat.le_refl _, hfin.out.1, hfin.out.2⟩
end Go.Proofs.Ytfamepdghememaa

