/-
  Parameters of one name.
-/
import Derived.Test.YtjedbfbolifjjaaGreatDoorKO
import Derived.Test.YtjedbfbolifjjaaGreatDoorKP
set_option linter.unusedVariables false
set_option linter.unusedSimpArgs false
namespace Go.Proofs.YtjedbfbolifjjaaGreatDoor
open Go.RowKit Go.Maps
variable {W W' : World}
/-- Does a name come twice? -/
def twL : List ByteArray → List Tr → Bool
  | _, [] => false
  | L, .mk _ s _ _ _ :: r => if (s.toList == [95]) = true then twL L r else if newN L s = true then twL (L ++ [s]) r else true
def ptV : Tr → Bool
  | .mk k _ _ _ l => (k == 17) && twL [] (l.take (l.length - 1))
abbrev SQ (g o : Nat) (la : Option Addr) (n lc : Nat) (w : World) : Prop := w.cell? ⟨g, o + 4, none⟩ = some (.slice la n lc)
set_option maxRecDepth 100000 in
set_option maxHeartbeats 1600000 in
theorem twice_c (N : Nat) : So N 50 #[] (fun _ => True) (fun T => Szs [T] ∧ ∀ U ∈ preL [T], U.l.length ≤ 4000 ∧ (U.k = 17 → U.l ≠ [])) ptV := by
  refine ⟨ent_of Tryz.func50 (by kernel_rfl) rfl, fun _ _ _ _ => trivial, fun W g o T _ hs hT hg hN => ?_⟩
  obtain ⟨k, s, n, b, l⟩ := T
  obtain ⟨hs, hq⟩ := hs
  obtain ⟨hl4, hne⟩ := hq (.mk k s n b l) (by rw [preL_cons]; simp)
  dsimp only at hl4 hne
  obtain ⟨ba, bc, la, lc, ⟨x0, x1, x2, x3, x4⟩, hrow, hgl⟩ := hT.parts
  have hcap := hT.cap x4
  have hszc : ∀ i U, l[i]? = some U → szT U := fun i U hi => hs U (by
    rw [preL_cons, preL_nil, List.append_nil]
    have := List.mem_of_getElem? hi
    obtain ⟨p, q, rfl⟩ := List.append_of_mem this
    rw [preL_app, show U :: q = [U] ++ q from rfl, preL_app]
    obtain ⟨uk, us, un, ub, ul⟩ := U
    rw [preL_cons]; simp)
  show Calls Tryz.prog 50 #[ptr g o] W fun e w' => e = .returned (.bool ((k == 17) && twL [] (l.take (l.length - 1)))) ∧ Gr (fun _ => False) W w'
  by_cases hk : k = 17
  case neg =>
    have hk' : (k == 17) = false := by simpa using hk
    rw [hk']
    clear hrow hT x1 x2 x3 x4 hs hq hne hszc hcap
    go_enter Tryz.func50, Tryz.ntmps50
    go_wp2_with fail
    go_ret
    exact ⟨rfl, Gr.refl _ _⟩
  subst hk
  have hne := hne rfl
  obtain ⟨m, hm⟩ : ∃ m, l.length = m + 1 := ⟨l.length - 1, by have := List.length_pos_iff.2 hne; omega⟩
  have gM := Gr.alloc W (.map #[] 0) (fun _ => False)
  have gD := gM.trans (Gr.drew _ (fun _ => False))
  have hB0 := (Bd.new W).gr (Gr.drew _ (fun _ => False)) (fun e => e)
  have hh := head_c N (W.alloc (.map #[] 0)).drew g o _ s n b l (hT.g0 gD hg) (by omega)
  rw [hm] at hh x4 hcap
  rw [show ((m + 1 : Nat) : Int) - 1 = (m : Int) by omega] at hh
  show Calls Tryz.prog 50 #[ptr g o] W fun e w' => e = .returned (.bool (twL [] (l.take (l.length - 1)))) ∧ Gr (fun _ => False) W w'
  rw [hm, Nat.add_sub_cancel]
  obtain ⟨r, hr⟩ : ∃ r, r = twL [] (l.take m) := ⟨_, rfl⟩
  rw [← hr]
  have Hr := Lib.hid hr
  have hmI : (m : Int) ≤ 4000 := by omega
  have hmc : m ≤ lc := by omega
  have S0 : SQ g o la (m + 1) lc (W.alloc (.map #[] 0)).drew := cell_gr x4 gD (fun e => e)
  have hgw : g < (W.alloc (.map #[] 0)).drew.heap.size := by have := gD.size; omega
  have hml : m < l.length := by omega
  replace hh := Lib.hid hh
  replace hrow := Lib.hid hrow
  replace hszc := Lib.hid hszc
  replace hB0 := Lib.hid hB0
  replace hl4 := Lib.hid hl4
  have hfd : ∀ w, (Instr.field 61 (hdv s (m : Int)) 1).run Tryz.prog w = .ok (.int .i64 (m : Int)) w := fun w => by rfl
  have hm0 : (0 : Int) ≤ (m : Int) := by omega
  have hmc' : (m : Int) ≤ (lc : Int) := by omega
  have hmm : ∀ w, (Instr.makeMap 66 none).run Tryz.prog w = .ok (.map (some w.heap.size)) (w.alloc (.map #[] 0)) := fun _ => rfl
  clear hT x1 x2 x3 hs hq hne hr
  go_enter Tryz.func50, Tryz.ntmps50
  go_wp2_with fail
  go_region_held3 (SQ g o la (m + 1) lc) (with_reducible assumption)
    (first
      | (go_at_call 70; refine hh.out.mono ?_; rintro e w2 ⟨rfl, g2⟩; have s2 : SQ g o la (m + 1) lc w2 := cell_gr S0 g2 (fun e => e))
      | fail)
  have hB2 := Lib.hid (hB0.out.gr g2 (fun e => e))
  have G2 : Gr (fun _ => False) W w2 := gD.trans g2
  have h0 : Hid (r = twL [] ((l.take m).drop 0)) := Hr
  clear hB0 gM gD S0 s2 hh x0 x4 g2 hfd hmm hgw
  generalize hmb : W.heap.size = mb at hB2 ⊢
  go_wp2_with fail
  go_loopw [21] (fun u wr => ∃ (i : Nat) (L : List ByteArray), i ≤ m ∧ u = .int .i64 (i : Int) ∧ Hid (r = twL L ((l.take m).drop i)) ∧ Hid (Bd wr mb L) ∧ Hid (L.length ≤ i) ∧ Gr (fun _ => False) W wr) (fun u _ => m - (intOf u).toNat)
  case atStart => exact ⟨0, [], Nat.zero_le _, rfl, h0, hB2, Nat.zero_le _, G2⟩
  case round =>
    obtain ⟨i, L, hi, rfl, hR, hB, hL, hG⟩ := hrel
    by_cases hlt : i < m
    · have hd : decide ((i : Int) < (m : Int)) = true := by simp; omega
      have hil : i < l.length := by omega
      have hTi : l[i]? = some l[i] := List.getElem?_eq_getElem hil
      have hdr : (l.take m).drop i = l[i] :: (l.take m).drop (i + 1) := by
        rw [List.drop_eq_getElem_cons (by rw [List.length_take]; omega), List.getElem_take]
      obtain ⟨g', o', rfl, hg', hTA⟩ := hrow.out i _ hTi
      have hsz := hszc.out i _ hTi
      generalize l[i] = U at hTA hsz hdr
      obtain ⟨uk, us, un, ub, ul⟩ := U
      obtain ⟨ba', bc', la', lc', ⟨y0, y1, y2, y3, y4⟩, hrow', hgl'⟩ := (hTA.g0 hG hg').parts
      have hs' : us.size ≤ 140737488351232 := hsz.1
      obtain ⟨OB, hOB⟩ : ∃ ob, ob = Obj.cells #[.int .i64 uk, .string us, .int .i64 un, .slice ba' ub.length bc', .slice la' ul.length lc'] 25 (0, 0) := ⟨_, rfl⟩
      have gA := Gr.alloc wr (.cells #[.int .i64 uk, .string us, .int .i64 un, .slice ba' ub.length bc', .slice la' ul.length lc'] 25) (fun _ => False)
      obtain ⟨⟨z0, z1, z2, z3, z4⟩, _⟩ := five_cells (heap_alloc_new wr (.cells #[.int .i64 uk, .string us, .int .i64 un, .slice ba' ub.length bc', .slice la' ul.length lc'] 25))
      have hput := Lib.hid (put_c _ mb L us (hB.out.gr gA (fun e => e)) hs' (by have := hL.out; omega))
      rw [hdr] at hR
      have e1 : twL L (.mk uk us un ub ul :: (l.take m).drop (i + 1)) = if (us.toList == [95]) = true then twL L ((l.take m).drop (i + 1)) else if newN L us = true then twL (L ++ [us]) ((l.take m).drop (i + 1)) else true := rfl
      replace hR := Lib.hid (hR.out.trans e1)
      have hmbl : mb < wr.heap.size := hB.out.lt
      have hgw' : g' < wr.heap.size := hgl'
      have hb := Lib.hid hi
      clear hTA hTi hrow' hsz e1 hdr hOB
      cases q1 : (us.toList == [95]) with
      | true =>
        rw [q1] at hR
        go_wp2_with fail
        exact ⟨⟨i + 1, L, hlt, by go_num, hR, Lib.hid (hB.out.gr gA (fun e => e)), Lib.hid (by have := hL.out; omega), hG.trans gA⟩, by simp [intOf]; omega⟩
      | false =>
        rw [q1] at hR
        cases q2 : newN L us with
        | false =>
          rw [q2] at hR hput
          go_wp2_with fail
          refine hput.out.mono ?_
          rintro e w5 ⟨rfl, hB5, g5⟩
          clear hB5
          go_wp2_with fail
          go_ret
          refine ⟨by rw [hR.out]; rfl, (hG.trans gA).trans' g5 (fun k hk e => absurd e (by omega))⟩
        | true =>
          rw [q2] at hR hput
          have ep : putL L us = L ++ [us] := by rw [putL, q2]; rfl
          rw [ep] at hput
          go_wp2_with fail
          refine hput.out.mono ?_
          rintro e w5 ⟨rfl, hB5, g5⟩
          replace hB5 := Lib.hid hB5
          go_wp2_with fail
          exact ⟨⟨i + 1, L ++ [us], hlt, by go_num, hR, hB5, Lib.hid (by have := hL.out; simp; omega), (hG.trans gA).trans' g5 (fun k hk e => absurd e (by omega))⟩, by simp [intOf]; omega⟩
    · have hd : decide ((i : Int) < (m : Int)) = false := by simp; omega
      obtain rfl : i = m := by omega
      have hR' : Hid (r = false) := by
        have := hR.out
        show _ = _
        rw [this, List.drop_of_length_le (by rw [List.length_take]; omega)]; rfl
      clear hR
      go_wp2_with fail
      go_ret
      exact ⟨by rw [hR'.out]; rfl, hG⟩
end Go.Proofs.YtjedbfbolifjjaaGreatDoor
