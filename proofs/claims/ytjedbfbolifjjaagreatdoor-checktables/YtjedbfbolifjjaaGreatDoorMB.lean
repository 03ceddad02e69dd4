/-
  Names that are not bound in a function: unbound.
-/
import Derived.Test.YtjedbfbolifjjaaGreatDoorKZ
import Derived.Test.YtjedbfbolifjjaaGreatDoorKS
set_option linter.unusedVariables false
set_option linter.unusedSimpArgs false
namespace Go.Proofs.YtjedbfbolifjjaaGreatDoor
open Go.RowKit Go.Maps
variable {W W' : World}
/-- The names of one tree after the other. -/
def putsT (L : List ByteArray) (l : List Tr) : List ByteArray := l.foldl putT L
theorem putsT_len (l : List Tr) : ∀ L, (putsT L l).length ≤ L.length + (preL l).length := by
  induction l with
  | nil => intro L; exact Nat.le_add_right _ _
  | cons T l ih =>
    intro L
    have e : preL (T :: l) = preL [T] ++ preL l := preL_app [T] l
    have h1 := putT_len L T
    have h2 := ih (putT L T)
    rw [e, List.length_append]
    show (putsT (putT L T) l).length ≤ _
    omega
def unbV : Tr → Bool
  | .mk k _ _ _ l => (k == 17) && ((l.getLast?.map fun B => (lk 30000 (putsT [] l.dropLast) B).1).getD false)
set_option maxRecDepth 100000 in
set_option maxHeartbeats 1600000 in
theorem unb_c (N : Nat) : So N 53 #[] (fun _ => True) (fun T => Szs [T] ∧ (∀ U ∈ preL [T], lkQ U ∧ (U.k = 17 → U.l ≠ [])) ∧ (preL [T]).length ≤ 30000) unbV := by
  refine ⟨ent_of Tryz.func53 (by kernel_rfl) rfl, fun _ _ _ _ => trivial, fun W g o T _ hs hT hg hN => ?_⟩
  obtain ⟨k, s, n, b, l⟩ := T
  obtain ⟨hs, hq, hpl⟩ := hs
  have hself : Tr.mk k s n b l ∈ preL [Tr.mk k s n b l] := by rw [preL_cons]; simp
  obtain ⟨⟨hl4, _⟩, hne⟩ := hq _ hself
  dsimp only at hne
  rw [pre_mk] at hpl
  have hsub : ∀ U ∈ l, ∀ V ∈ preL [U], V ∈ preL [Tr.mk k s n b l] := fun U hU V hV => by
    rw [preL_cons, preL_nil, List.append_nil]
    exact List.mem_cons_of_mem _ (mem_pre hU V hV)
  obtain ⟨ba, bc, la, lc, ⟨x0, x1, x2, x3, x4⟩, hrow, hgl⟩ := hT.parts
  show Calls Tryz.prog 53 #[ptr g o] W fun e w' => e = .returned (.bool ((k == 17) && ((l.getLast?.map fun B => (lk 30000 (putsT [] l.dropLast) B).1).getD false))) ∧ Gr (fun _ => False) W w'
  by_cases hk : k = 17
  case neg =>
    have hk' : (k == 17) = false := by simpa using hk
    rw [hk']
    clear hrow hT x1 x2 x3 x4 hs hq hne hsub
    go_enter Tryz.func53, Tryz.ntmps53
    go_wp2_with fail
    go_ret
    exact ⟨rfl, Gr.refl _ _⟩
  subst hk
  have hne := hne rfl
  obtain ⟨B, hB⟩ : ∃ B, l.getLast? = some B := by
    cases h : l.getLast? with
    | none => exact absurd (List.getLast?_eq_none_iff.1 h) hne
    | some B => exact ⟨B, rfl⟩
  obtain ⟨p, rfl⟩ := List.getLast?_eq_some_iff.1 hB
  rw [hB, List.dropLast_concat]
  show Calls Tryz.prog 53 #[ptr g o] W fun e w' => e = .returned (.bool (lk 30000 (putsT [] p) B).1) ∧ Gr (fun _ => False) W w'
  have hlen : (p ++ [B]).length = p.length + 1 := by simp
  have hh := head_c N (W.alloc (.map #[] 0)) g o _ s n b _ (hT.g0 (Gr.alloc W _ _) hg) (by omega)
  rw [hlen] at hh x4
  rw [show ((p.length + 1 : Nat) : Int) - 1 = (p.length : Int) by omega] at hh
  have hmI : (p.length : Int) ≤ 4000 := by omega
  have gM := Gr.alloc W (.map #[] 0) (fun _ => False)
  have hB0 := Bd.new W
  have y4 := cell_gr x4 gM (fun e => e)
  obtain ⟨mb, hmb⟩ : ∃ mb, W.heap.size = mb := ⟨_, rfl⟩
  have hpre : (preL (p ++ [B])).length = (preL p).length + (preL [B]).length := by rw [preL_app, List.length_append]
  obtain ⟨gb, ob, rfl, hgb, hBt⟩ := hrow p.length B (by simp)
  have hlk : Hid (∀ w L, Gr (fun _ => False) W w → Bd w mb L → L.length ≤ (preL p).length → Calls Tryz.prog 73 #[.map (some mb), ptr gb (ob + p.length * 5)] w fun e w' => e = .returned (.bool (lk 30000 L B).1) ∧ ((lk 30000 L B).1 = false → Bd w' mb (lk 30000 L B).2) ∧ Gr (fun k => k = mb) w w') := fun w L gw hb hL =>
    lk_ok N 30000 B (fun V hV => hs V (hsub B (by simp) V hV)) (fun V hV => (hq V (hsub B (by simp) V hV)).1) (by omega) w mb gb _ L hb (by omega) (by omega) (hBt.g0 gw hgb) hgb (by have := gw.size; omega)
  have hput : Hid (∀ w L i U, p[i]? = some U → Gr (fun _ => False) W w → Bd w mb L → L.length ≤ (preL (p.take i)).length → Calls Tryz.prog 72 #[.map (some mb), ptr gb (ob + i * 5)] w fun e w' => e = .returned (.tuple #[]) ∧ Bd w' mb (putT L U) ∧ Gr (fun k => k = mb) w w') := fun w L i U hU gw hb hL => by
    have hm : U ∈ p ++ [B] := List.mem_append_left _ (List.mem_of_getElem? hU)
    obtain ⟨g', o', e', _, hU'⟩ := hrow i U (by rw [List.getElem?_append_left (List.getElem?_eq_some_iff.1 hU).1]; exact hU)
    cases e'
    have hx : (preL (p.take i)).length + (preL [U]).length ≤ (preL p).length := by
      have e : p = p.take i ++ (U :: p.drop (i + 1)) := by
        obtain ⟨h2, rfl⟩ := List.getElem?_eq_some_iff.1 hU
        rw [List.getElem_cons_drop, List.take_append_drop]
      have e2 : preL p = preL (p.take i) ++ (preL [U] ++ preL (p.drop (i + 1))) := by
        rw [← preL_app, ← preL_app]; congr 1
      rw [e2, List.length_append, List.length_append]; omega
    exact putAll_c N U (fun V hV => hs V (hsub U hm V hV)) w mb gb _ L hb (by omega) (hU'.g0 gw hgb) hgb (by omega)
  have hbw : gb < W.heap.size := by
    obtain ⟨v, h1, h2⟩ := hBt
    obtain ⟨tk, tt, tn, a1, n1, c1, a2, n2, c2, rfl⟩ := h1.agg
    exact World.block_lt_of_cell? _ _ (h2 0 _ rfl)
  have hfd := fun m w => fld61 s m w
  have hmm : ∀ w, (Instr.makeMap 66 none).run Tryz.prog w = .ok (.map (some w.heap.size)) (w.alloc (.map #[] 0)) := fun _ => rfl
  have hgm : g < (W.alloc (.map #[] 0)).heap.size := by have := gM.size; omega
  obtain ⟨r, hr⟩ : ∃ r, r = (lk 30000 (putsT [] p) B).1 := ⟨_, rfl⟩
  rw [← hr]
  replace hr := Lib.hid hr
  rw [hmb] at hB0
  replace hh := Lib.hid hh
  replace hB0 := Lib.hid hB0
  clear hT hrow x1 x2 x3 hs hq hne hsub hB hBt hpl hl4 hpre hlen
  go_enter Tryz.func53, Tryz.ntmps53
  go_wp2_with fail
  refine hh.out.mono ?_
  rintro e w1 ⟨rfl, g1⟩
  have G1 : Gr (fun _ => False) W w1 := gM.trans g1
  have hb1 := Lib.hid (hB0.out.gr g1 (fun e => e))
  try rw [hmb]
  clear hmm hh hB0 y4 gM hgm
  go_wp2_with fail
  go_loopw [16] (fun u wr => ∃ i : Nat, i ≤ p.length ∧ u = .int .i64 (i : Int) ∧ Hid (Bd wr mb (putsT [] (p.take i))) ∧ Gr (fun _ => False) W wr) (fun u _ => p.length - (intOf u).toNat)
  case atStart => exact ⟨0, Nat.zero_le _, rfl, by show Bd _ _ _; rw [List.take_zero]; exact hb1.out, G1⟩
  case round =>
    obtain ⟨i, hi, rfl, hBi, hG⟩ := hrel
    have z4 := cell_gr x4 hG (fun e => e)
    have hsz := hG.size
    have hgw : g < wr.heap.size := by omega
    have hgw' : gb < wr.heap.size := by omega
    by_cases hlt : i < p.length
    · have hd : decide ((i : Int) < (p.length : Int)) = true := by simp; omega
      have hTi : p[i]? = some p[i] := List.getElem?_eq_getElem hlt
      have hc := Lib.hid (hput.out wr _ i _ hTi hG hBi.out (by have := putsT_len (p.take i) []; simpa using this))
      have est : putsT [] (p.take (i + 1)) = putT (putsT [] (p.take i)) p[i] := by
        unfold putsT; rw [List.take_add_one, hTi, List.foldl_append]; rfl
      have hb := Lib.hid hi
      clear hTi
      go_wp2_with fail
      refine hc.out.mono ?_
      rintro e w4 ⟨rfl, h4, g4⟩
      rw [← est] at h4
      replace h4 := Lib.hid h4
      have G4 : Gr (fun _ => False) W w4 := hG.trans' g4 (fun k hk e => absurd e (by omega))
      go_wp2_with fail
      exact ⟨⟨i + 1, hlt, by go_num, h4, G4⟩, by simp [intOf]; omega⟩
    · have hd : decide ((i : Int) < (p.length : Int)) = false := by simp; omega
      obtain rfl : i = p.length := by omega
      have hbb := hBi.out
      rw [List.take_length] at hbb
      have hc := hlk.out wr _ hG hbb (by have := putsT_len p []; simpa using this)
      rw [← hr.out] at hc
      replace hc := Lib.hid hc
      clear hbb
      go_wp2_with fail
      refine hc.out.mono ?_
      rintro e w4 ⟨rfl, h4, g4⟩
      have G4 : Gr (fun _ => False) W w4 := hG.trans' g4 (fun k hk e => absurd e (by omega))
      clear h4
      go_wp2_with fail
      go_ret
      exact ⟨rfl, G4⟩
end Go.Proofs.YtjedbfbolifjjaaGreatDoor
