/-
  Carried over from another seat of ours (QW).
-/
import Derived.Test.YtfamepdghememaaQV
set_option linter.unusedVariables false
set_option linter.unusedSimpArgs false
namespace Go.Proofs.Ytfamepdghememaa
open Go.RowKit Go.Maps Go.WideMaps
variable {S S' : Nat → Prop} {W W1 W' : World}
/-- The i-th name. -/
def nmS (i : Nat) : ByteArray := ⟨#[86, UInt8.ofNat (97 + i % 26), UInt8.ofNat (97 + i / 26)]⟩
def decN (s : ByteArray) : Nat := ((s.data[1]?.getD 0).toNat - 97) + 26 * ((s.data[2]?.getD 0).toNat - 97)
abbrev sK : ByteArray := ⟨#[75, 110, 111, 119, 110]⟩
theorem nm_all : ∀ i : Fin 200, isVar (nmS i.val) = true ∧ decN (nmS i.val) = i.val := by decide +kernel
theorem nm_var {i : Nat} (h : i < 200) : isVar (nmS i) = true := (nm_all ⟨i, h⟩).1
theorem nm_dec {i : Nat} (h : i < 200) : decN (nmS i) = i := (nm_all ⟨i, h⟩).2
theorem nm_size (i : Nat) : (nmS i).size = 3 := rfl
theorem nm_ne (i : Nat) : nmS i ≠ sK := fun e => by
  have : (nmS i).size = sK.size := by rw [e]
  rw [nm_size] at this; exact absurd this (by decide)
theorem vK : isVar sK = true := by decide +kernel
def nmN (n : Nat) : List ByteArray := (List.range n).map nmS
def nmZ (n : Nat) : List Int := (List.range n).map fun i : Nat => (i : Int)
theorem nm_nodup {n : Nat} (h : n ≤ 200) : (nmN n).Nodup := by
  unfold nmN
  unfold List.Nodup
  rw [List.pairwise_map]
  refine List.Pairwise.imp_of_mem ?_ (List.nodup_range (n := n))
  intro i j hi hj hne e
  have hi := List.mem_range.1 hi
  have hj := List.mem_range.1 hj
  have := congrArg decN e
  rw [nm_dec (by omega), nm_dec (by omega)] at this
  exact hne this
theorem gath_new : ∀ (ns l : List ByteArray), ns.Nodup → (∀ s ∈ ns, s ∉ l) → gath ns l (l ++ ns)
  | [], l, _, _ => by simp [gath]
  | s :: ns, l, h, hl => by
    obtain ⟨h1, h2⟩ := List.nodup_cons.1 h
    refine .inr ⟨hl s (by simp), ?_⟩
    have := gath_new ns (l ++ [s]) h2 (fun x hx => by simp; exact ⟨hl x (by simp [hx]), fun e => h1 (e ▸ hx)⟩)
    simpa using this
theorem fitR_new : ∀ (l : List (ByteArray × Value)) (m : Nat) (R : ByteArray → Option Value), (l.map Prod.fst).Nodup → (∀ p ∈ l, R p.1 = none) → ∃ R', fitR l m R = (true, m + l.length, R') ∧ (∀ p ∈ l, R' p.1 = some p.2) ∧ ∀ s, (∀ p ∈ l, p.1 ≠ s) → R' s = R s
  | [], m, R, _, _ => by
    refine ⟨R, by simp [fitR], fun p hp => absurd hp (by simp), fun _ _ => rfl⟩
  | (s, v) :: l, m, R, h, hR => by
    obtain ⟨h1, h2⟩ := List.nodup_cons.1 (show (s :: l.map Prod.fst).Nodup from h)
    have hne : ∀ p ∈ l, p.1 ≠ s := fun p hp e => h1 (e ▸ List.mem_map_of_mem hp)
    obtain ⟨R', e1, e2, e3⟩ := fitR_new l (m + 1) (ins R s v) h2 (fun p hp => by rw [ins_other _ _ (hne p hp)]; exact hR p (by simp [hp]))
    refine ⟨R', ?_, fun p hp => ?_, fun x hx => ?_⟩
    · rw [fitR, show R s = none from hR (s, v) (by simp)]
      show fitR l (m + 1) (ins R s v) = _
      rw [e1, List.length_cons]; congr 2; omega
    · rcases List.mem_cons.1 hp with rfl | hp
      · rw [e3 s hne, ins_same]
      · exact e2 p hp
    · rw [e3 x (fun p hp => hx p (by simp [hp])), ins_other _ _ (fun e => hx (s, v) (by simp) e.symm)]
theorem bds_at : ∀ {outs : List (ByteArray × Lf)} {bv : List Value}, Bds outs bv → ∀ (j : Nat) (s : ByteArray) (t : Lf), outs[j]? = some (s, t) → ∃ b1 d1 b2 d2, ∀ (q : Nat) (u : Value), (cellsOf (bd s t b1 d1 b2 d2))[q]? = some u → (bv.flatMap cellsOf)[j * 10 + q]? = some u
  | [], bv, h, j, s, t, hj => by simp at hj
  | (s', t') :: r, bv, h, 0, s, t, hj => by
    obtain ⟨x1, y1, x2, y2, l', rfl, h'⟩ := h
    simp at hj
    obtain ⟨rfl, rfl⟩ := hj
    refine ⟨x1, y1, x2, y2, fun q u hu => ?_⟩
    rw [List.flatMap_cons, List.getElem?_append_left (by have := (List.getElem?_eq_some_iff.1 hu).1; omega)]
    simpa using hu
  | (s', t') :: r, bv, h, j + 1, s, t, hj => by
    obtain ⟨x1, y1, x2, y2, l', rfl, h'⟩ := h
    obtain ⟨b1, d1, b2, d2, hh⟩ := bds_at h' j s t (by simpa using hj)
    refine ⟨b1, d1, b2, d2, fun q u hu => ?_⟩
    have hl : (cellsOf (bd s' t' x1 y1 x2 y2)).length = 10 := rfl
    rw [List.flatMap_cons, List.getElem?_append_right (by rw [hl]; omega), hl, show (j + 1) * 10 + q - 10 = j * 10 + q by omega]
    exact hh q u hu
/-- The values of parts without elements, with no rows. -/
abbrev lv0 (t : Lf) : Value := lv t none 0 none 0
theorem reps_lv0 (A : Nat → Prop) (W : World) : ∀ l : List Lf, Reps A W (leafs l) (l.map lv0)
  | [] => rfl
  | t :: l => ⟨_, _, rfl, leaf_rep _ _ _ _ _ _ _, reps_lv0 A W l⟩
end Go.Proofs.Ytfamepdghememaa

