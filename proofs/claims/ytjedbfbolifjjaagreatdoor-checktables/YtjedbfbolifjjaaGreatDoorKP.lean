/-
  Names put into a set: all of a tree.
-/
import Derived.Test.YtjedbfbolifjjaaGreatDoorKN
import Derived.Test.YtjedbfbolifjjaaGreatDoorKB
import Derived.Test.YtjedbfbolifjjaaGreatDoorGQ
import Derived.Deep.RegionHeld3
set_option linter.unusedVariables false
set_option linter.unusedSimpArgs false
namespace Go.Proofs.YtjedbfbolifjjaaGreatDoor
open Go.RowKit Go.Maps
variable {W W' : World}
/-- What one part adds to the names. -/
def pst (L : List ByteArray) : Tr → Bool × List ByteArray
  | .mk k s _ _ _ => (false, if k = 3 then putL L s else L)
theorem putL_len (L : List ByteArray) (s : ByteArray) : (putL L s).length ≤ L.length + 1 := by
  unfold putL; split <;> simp
theorem pst_len (L : List ByteArray) (T : Tr) : (pst L T).2.length ≤ L.length + 1 := by
  obtain ⟨k, s, n, b, l⟩ := T
  have := putL_len L s
  unfold pst; dsimp only; split <;> omega
def BdAt (u mb : Nat) (L : List ByteArray) (W : World) : Prop := W.cell? ⟨u, 0, none⟩ = some (.map (some mb)) ∧ Bd W mb L
abbrev SP (u g o mb : Nat) (s : ByteArray) (w : World) : Prop := w.cell? ⟨u, 0, none⟩ = some (.map (some mb)) ∧ w.cell? ⟨g, o + 1, none⟩ = some (.string s)
def pQ (L : List ByteArray) (T : Tr) : Prop := L.length ≤ 1000000 ∧ szT T
theorem pst_ok (l : List Tr) : ∀ L : List ByteArray, (∀ T ∈ l, szT T) → L.length + l.length ≤ 1000000 → okA pQ pst L l := by
  induction l with
  | nil => intro L _ _; trivial
  | cons T l ih =>
    intro L hs hl
    rw [List.length_cons] at hl
    have := pst_len L T
    exact ⟨⟨by omega, hs T (by simp)⟩, fun _ => ih _ (fun U hU => hs U (by simp [hU])) (by omega)⟩
def putT (L : List ByteArray) (T : Tr) : List ByteArray := (goA pst L (preL [T])).2
theorem pst_no (l : List Tr) : ∀ L, (goA pst L l).1 = false := by
  induction l with
  | nil => intro L; rfl
  | cons T l ih =>
    intro L
    obtain ⟨k, s, n, b, q⟩ := T
    have e : goA pst L (.mk k s n b q :: l) = goA pst (pst L (.mk k s n b q)).2 l := if_neg (by simp [pst])
    rw [e]; exact ih _
set_option maxRecDepth 100000 in
set_option maxHeartbeats 1600000 in
theorem pst_so (N u mb : Nat) (hm : N ≤ mb) (hu : u ≠ mb) : SoS N 96 #[ptr u 0] (fun k => k = mb) (fun L w => BdAt u mb L w) pQ pst := by
  refine ⟨ent_of Tryz.func96 (by kernel_rfl) rfl, fun k hk e => by omega, fun W L g o T hI hQ hT hg hN => ?_⟩
  obtain ⟨k, s, n, b, l⟩ := T
  obtain ⟨ba, bc, la, lc, ⟨x0, x1, x2, x3, x4⟩, hrow, hgl⟩ := hT.parts
  obtain ⟨xu, hB⟩ := hI
  obtain ⟨hL, hs⟩ := hQ
  have hs' : s.size ≤ 140737488351232 := hs.1
  have hul := World.block_lt_of_cell? _ _ xu
  dsimp only at hul
  by_cases hk : k = 3
  · subst hk
    show Calls Tryz.prog 96 #[ptr g o, ptr u 0] W fun e w' => e = .returned (.bool false) ∧ (false = false → BdAt u mb (putL L s) w') ∧ Gr (fun k => k = mb) W w'
    have hp := Lib.hid (put_c W.drew mb L s (hB.gr (Gr.drew W (fun _ => False)) (fun e => e)) hs' hL)
    have TS : SP u g o mb s W.drew := ⟨xu, x1⟩
    obtain ⟨z0, z1⟩ := TS
    have TS : SP u g o mb s W.drew := ⟨z0, z1⟩
    replace hB := Lib.hid hB
    replace hL := Lib.hid hL
    clear hrow hT x2 x3 x4 hs hs'
    go_enter Tryz.func96, Tryz.ntmps96
    go_wp2_with fail
    go_region_held3 (SP u g o mb s) (with_reducible assumption)
      (first
        | (go_at_call 37; refine hp.out.mono ?_; rintro e w2 ⟨rfl, hB2, g2⟩; have s2 : SP u g o mb s w2 := ⟨cell_gr TS.1 g2 hu, cell_gr TS.2 g2 (by omega)⟩)
        | fail)
    all_goals
      have h2 := Lib.hid hB2
      have gg : Gr (fun k => k = mb) W w2 := (Gr.drew W _).trans g2
      clear hB2
      go_wp2_with fail
      go_ret
      exact ⟨rfl, fun _ => ⟨cell_gr xu gg hu, h2.out⟩, gg⟩
  · have e1 : pst L (.mk k s n b l) = (false, L) := by show (false, if k = 3 then putL L s else L) = _; rw [if_neg hk]
    rw [e1]
    have hk' : (k == 3) = false := by simpa using hk
    replace hB := Lib.hid hB
    replace hL := Lib.hid hL
    clear hrow hT x1 x2 x3 x4 hs hs' e1
    go_enter Tryz.func96, Tryz.ntmps96
    go_wp2_with fail
    go_ret
    exact ⟨rfl, fun _ => ⟨xu, hB.out⟩, Gr.refl _ _⟩
set_option maxRecDepth 100000 in
set_option maxHeartbeats 1600000 in
theorem putAll_c (N : Nat) (T : Tr) (hs : Szs [T]) (W : World) (mb g o : Nat) (L : List ByteArray) (hB : Bd W mb L) (hm : N ≤ mb) (hT : TAtG N W g o T) (hg : g < N) (hn : L.length + (preL [T]).length ≤ 1000000) : Calls Tryz.prog 72 #[.map (some mb), ptr g o] W fun e w' => e = .returned (.tuple #[]) ∧ Bd w' mb (putT L T) ∧ Gr (fun k => k = mb) W w' := by
  have hml := hB.lt
  have gA := Gr.alloc W (.cells #[.map (some mb)] 66) (fun _ => False)
  have hq := anys_c (pst_so N W.heap.size mb hm (by omega)) T hs
  have hbx := one_cell (heap_alloc_new W (.cells #[.map (some mb)] 66))
  have hc := hq _ L g o ⟨hbx.1, hB.gr gA (fun e => e)⟩ (pst_ok _ _ (fun U hU => hs U hU) hn) (hT.g0 gA hg) hg (by have := gA.size; omega)
  rw [pst_no] at hc
  replace hc := Lib.hid hc
  replace hB := Lib.hid hB
  clear hq hT hn hbx
  go_enter Tryz.func72, Tryz.ntmps72
  go_wp2_with fail
  refine hc.out.mono ?_
  rintro e w1 ⟨rfl, h1, g1⟩
  have h2 := Lib.hid (h1 (by first | trivial | rfl)).2
  clear h1
  go_wp2_with fail
  exact ⟨rfl, .tuple #[], by simp [results, Tryz.results72, go_sem], rfl, h2.out, (gA.any _).trans g1⟩
end Go.Proofs.YtjedbfbolifjjaaGreatDoor
