/-
  The reference's params: a function's parameters.
  The reference's Slots and much.
  What the reference's Check answers, and that it is what Check answers (pure).
-/
import Derived.Test.YtjedbfbolifjjaaGreatDoorMM
import Derived.Test.YtjedbfbolifjjaaGreatDoorKS
import Derived.Test.YtjedbfbolifjjaaGreatDoorMF
set_option linter.unusedVariables false
set_option linter.unusedSimpArgs false
namespace Go.Proofs.YtjedbfbolifjjaaGreatDoor
open Go.RowKit Go.Maps
variable {W W' : World}
/-- The name that stands in a part. -/
abbrev nmT : Tr → ByteArray
 | .mk _ s _ _ _ => s
set_option maxRecDepth 100000 in
set_option maxHeartbeats 1600000 in
theorem rparams_c (N : Nat) (W : World) (k : Int) (s : ByteArray) (n : Int) (bv : Value) (hbv : ∃ x y z, bv = .slice x y z) (la : Option Addr) (lc : Nat) (l : List Tr) (hrow : RowAt N W la l) (hN : N ≤ W.heap.size) (hl : l.length ≤ 30000) :
 Calls Tryz.prog 29 #[trv k s n bv (.slice la l.length lc)] W fun e w' => ∃ v', e = .returned v' ∧ Ns W.heap.size w' v' (l.dropLast.map nmT) ∧ Gr (fun _ => False) W w' := by
 obtain ⟨x, y, z, rfl⟩ := hbv
 have gA := Gr.alloc W (.cells #[.int .i64 k, .string s, .int .i64 n, .slice x y z, .slice la l.length lc] 25) (fun _ => False)
 obtain ⟨⟨m0, m1, m2, m3, m4⟩, _⟩ := five_cells (heap_alloc_new W (.cells #[.int .i64 k, .string s, .int .i64 n, .slice x y z, .slice la l.length lc] 25))
 have hsz1 : (W.alloc (.cells #[.int .i64 k, .string s, .int .i64 n, .slice x y z, .slice la l.length lc] 25)).heap.size = W.heap.size + 1 := by simp
 obtain ⟨tb, htb⟩ : ∃ tb, W.heap.size = tb := ⟨_, rfl⟩
 rw [htb] at m0 m1 m2 m3 m4 hsz1 hN
 have hlI : (l.length : Int) ≤ 30000 := by omega
 replace hrow := Lib.hid hrow
 have hgA := Lib.hid gA
 have hm4 := Lib.hid m4
 have hs1 := Lib.hid hsz1
 replace hl := Lib.hid hl
 clear hsz1 gA m0 m1 m2 m3
 go_enter Tryz.func29, Tryz.ntmps29
 go_wp2_with fail
 replace htb := Lib.hid htb
 generalize W.alloc (.cells #[.int .i64 k, .string s, .int .i64 n, .slice x y z, .slice la l.length lc] 25) = W1 at hgA hm4 hs1 m4 ⊢
 clear m4
 go_loopw [3, 4] (fun u3 u4 wr => ∃ i : Nat, i ≤ l.length - 1 ∧ u4 = .int .i64 (i : Int) ∧ Ns W1.heap.size wr u3 ((l.take i).map nmT) ∧ Gr (fun _ => False) W1 wr) (fun _ u4 _ => l.length - (intOf u4).toNat)
 case atStart => exact ⟨0, Nat.zero_le _, rfl, Ns.nil _ _ (Nat.le_refl _), Gr.refl _ _⟩
 case round =>
  obtain ⟨i, hi, rfl, hNs, hG⟩ := hrel
  have y4 := cell_gr hm4.out hG (fun e => e)
  have hs2 := hG.size
  have htl : tb < wr.heap.size := by have := hs1.out; omega
  have hll := hl.out
  obtain ⟨na, nc, rfl⟩ := hNs.sv
  by_cases hlt : i + 1 < l.length
  ·
   have hd : decide ((i : Int) + 1 < (l.length : Int)) = true := by simp; omega
   have hil : i < l.length := by omega
   have hiI : (i : Int) < (l.length : Int) := by omega
   have hTi : l[i]? = some l[i] := List.getElem?_eq_getElem hil
   obtain ⟨g', o', rfl, hg', hTA⟩ := hrow.out i _ hTi
   have htk : Hid ((l.take (i + 1)).map nmT = (l.take i).map nmT ++ [nmT l[i]]) := by
    show _ = _
    rw [List.take_add_one, hTi, List.map_append]; rfl
   have hnl : Hid (((l.take i).map nmT).length < 40000) := by
    show _ < _
    rw [List.length_map, List.length_take]; omega
   generalize l[i] = U at hTA htk
   obtain ⟨uk, us, un, ub, ul⟩ := U
   obtain ⟨ba', bc', la', lc', ⟨z0, z1, z2, z3, z4⟩, _, hgl'⟩ := (hTA.g0 (hgA.out.trans hG) hg').parts
   have hb := Lib.hid hi
   replace hlt := Lib.hid hlt
   have hw1 : W1.heap.size ≤ wr.heap.size := hs2
   clear hTA hTi z0 z2 z3 z4 hll hil
   generalize hns : (l.take i).map nmT = ns at hNs htk hnl ⊢
   replace hns := Lib.hid hns
   go_wp2_with (first
    | (at_builtin; refine wpList_ns rfl _ _ rfl W1.heap.size _ ns wr.heap.size us rfl rfl (hNs.g0 (Gr.alloc wr _ _)) (new_cell wr us) hnl.out ?_; intro v5 w5 hN5 g5; obtain ⟨a5, c5, rfl⟩ := hN5.sv)
    | fail)
   have G5 : Gr (fun _ => False) W1 w5 := (hG.trans (Gr.alloc wr (.cells #[.string us] 9) _)).trans' g5 (fun k hk e => by omega)
   have hl5 : (ns ++ [us]).length = ns.length + 1 := by simp
   have hN6 : Ns W1.heap.size w5 (.slice a5 (ns.length + 1) c5) ((l.take (i + 1)).map nmT) := by rw [htk.out, ← hl5]; exact hN5
   have := hlt.out
   exact ⟨⟨i + 1, by omega, by go_num, hN6, G5⟩, by simp [intOf]; omega⟩
  ·
   have hd : decide ((i : Int) + 1 < (l.length : Int)) = false := by simp; omega
   have hie : i = l.length - 1 := by omega
   have hfin : Hid ((l.take i).map nmT = l.dropLast.map nmT) := by
    show _ = _
    rw [hie, List.dropLast_eq_take]
   have hiI : (i : Int) ≤ 30000 := by omega
   clear hie hll
   generalize (l.take i).map nmT = ns at hNs hfin ⊢
   go_wp2_with fail
   go_ret
   exact ⟨_, rfl, by rw [← hfin.out]; exact ⟨hNs.len, ownsRow_base hNs.row hgA.out.size, Nat.le_trans hgA.out.size hNs.bas⟩, hgA.out.trans hG⟩
end Go.Proofs.YtjedbfbolifjjaaGreatDoor

namespace Go.Proofs.YtjedbfbolifjjaaGreatDoor
open Go.RowKit Go.Maps
variable {W W' : World}
/-- The names of parts, behind those that are there. -/
def fpL (L : List ByteArray) (o : List Tr) : List ByteArray := (goA pst L o).2
theorem fpL_step {L : List ByteArray} {o : List Tr} {i : Nat} {k : Int} {s : ByteArray} {n : Int} {b : List Int} {q : List Tr} (h : o[i]? = some (.mk k s n b q)) : fpL L (o.take (i + 1)) = if k = 3 then putL (fpL L (o.take i)) s else fpL L (o.take i) := by
 unfold fpL
 rw [List.take_add_one, h, goA_app, pst_no]
 show (goA pst _ [.mk k s n b q]).2 = _
 have : goA pst (goA pst L (o.take i)).2 [.mk k s n b q] = goA pst (pst (goA pst L (o.take i)).2 (.mk k s n b q)).2 [] := if_neg (by simp [pst])
 rw [this]; rfl
theorem fpL_len (L : List ByteArray) (o : List Tr) : (fpL L o).length ≤ L.length + o.length := slL_len o L
set_option maxRecDepth 100000 in
set_option maxHeartbeats 4000000 in
theorem rslots_c (W : World) (k : Int) (s : ByteArray) (n : Int) (b : List Int) (l : List Tr) (v : Value) (hR : RepG (fun z => z < W.heap.size) W (.mk k s n b l) v) (hl : (preL [Tr.mk k s n b l]).length ≤ 4000) :
 Calls Tryz.prog 21 #[v] W fun e w' => ∃ v', e = .returned v' ∧ Ns W.heap.size w' v' (slotV (.mk k s n b l)) ∧ Gr (fun _ => False) W w' := by
 have ha := fun w (g : Gr (fun _ => False) W w) => allg_c (.mk k s n b l) w W.heap.size _ 4000 (hR.turn (A' := fun k => k < W.heap.size) (fun z hz hl => ⟨hz, g.block z hl (fun e => e)⟩)) g.size (by decide) (by decide)
 rw [List.take_of_length_le hl] at ha
 have hfin : Hid (k = 17 → fpL [] (preL [Tr.mk k s n b l]) = slotV (.mk k s n b l)) := by
  rintro rfl
  show (goA pst [] (preL [Tr.mk 17 s n b l])).2 = slL [] l
  rw [preL_cons, preL_nil, List.append_nil]
  have : goA pst [] (.mk 17 s n b l :: preL l) = goA pst (pst [] (.mk 17 s n b l)).2 (preL l) := if_neg (by simp [pst])
  rw [this]; rfl
 generalize hsv : slotV (.mk k s n b l) = sv at hfin ⊢
 generalize preL [Tr.mk k s n b l] = o at ha hl hfin
 obtain ⟨ba, bc, la, lc, rfl, _⟩ := rep_row hR
 have gB := Gr.alloc W (.cells #[.int .i64 k, .string s, .int .i64 n, .slice ba b.length bc, .slice la l.length lc] 25) (fun _ => False)
 have hlenI : (o.length : Int) ≤ 4000 := by omega
 replace hl := Lib.hid hl
 replace ha := Lib.hid ha
 clear hR
 by_cases hk : k = 17
 case neg =>
  have hk2 : (k != 17) = true := by simpa using hk
  have hk3 : (k == 17) = false := by simpa using hk
  have e0 : sv = [] := by rw [← hsv]; exact if_neg hk
  rw [e0]
  clear ha hfin hsv
  go_enter Tryz.func21, Tryz.ntmps21
  go_wp2_with fail
  go_ret
  exact ⟨_, rfl, Ns.nil _ _ gB.size, gB⟩
 subst hk
 replace hfin := Lib.hid (hfin.out rfl)
 clear hsv
 go_enter Tryz.func21, Tryz.ntmps21
 go_wp2_with fail
 generalize W.alloc _ = WB at gB ⊢
 refine (ha.out WB gB).mono ?_
 rintro e w1 ⟨v', us, rfl, hrow, hreps, g1⟩
 have G1 := gB.trans g1
 obtain ⟨oa, oc, rfl⟩ := ownsRow_sv hrow
 have hat := rowat_own hrow (hreps.turn (A' := fun k => k < w1.heap.size) (fun z hz hl => ⟨hl, rfl⟩))
 replace hat := Lib.hid hat
 clear hrow hreps
 go_wp2_with fail
 go_loopw [3, 5] (fun u3 u5 wr => ∃ i : Nat, i ≤ o.length ∧ u5 = .int .i64 (i : Int) ∧ Ns w1.heap.size wr u3 (fpL [] (o.take i)) ∧ Gr (fun _ => False) w1 wr) (fun _ u5 _ => o.length - (intOf u5).toNat)
 case atStart => exact ⟨0, Nat.zero_le _, rfl, Ns.nil _ _ (Nat.le_refl _), Gr.refl _ _⟩
 case round =>
  obtain ⟨i, hi, rfl, hNs, hG⟩ := hrel
  by_cases hlt : i < o.length
  ·
   have h1 : (i : Int) < (o.length : Int) := by omega
   have hTi : o[i]? = some o[i] := List.getElem?_eq_getElem hlt
   obtain ⟨g', o', rfl, hg', hTA⟩ := hat.out i _ hTi
   generalize o[i] = U at hTA hTi
   obtain ⟨uk, us, un, ub, ul⟩ := U
   have hst := fpL_step (L := []) hTi
   obtain ⟨ba', bc', la', lc', ⟨z0, z1, z2, z3, z4⟩, _, hgl'⟩ := (hTA.g0 hG hg').parts
   have hnl : Hid ((fpL [] (o.take i)).length < 40000) := by
    have := fpL_len [] (o.take i)
    rw [List.length_take] at this
    have := hl.out
    show _ < _
    simp at *; omega
   have hb := Lib.hid hi
   clear hTA hTi z2 z3 z4
   generalize hns : fpL [] (o.take i) = ns at hNs hst hnl ⊢
   replace hns := Lib.hid hns
   have hsz := hG.size
   have hhas := fun w (gw : Gr (fun _ => False) wr w) => rhas_c wr.heap.size w _ ns us (hNs.nr.g0 gw) gw.size (by have := hnl.out; omega)
   replace hhas := Lib.hid hhas
   obtain ⟨na, nc, rfl⟩ := hNs.sv
   by_cases h3 : uk = 3
   case neg =>
    have q3 : (uk == 3) = false := by simpa using h3
    rw [if_neg h3] at hst
    replace hst := Lib.hid hst
    clear h3
    go_wp2_with fail
    exact ⟨⟨i + 1, hlt, by go_num, by rw [hst.out]; exact hNs, hG⟩, by simp [intOf]; omega⟩
   have q3 : (uk == 3) = true := by simpa using h3
   rw [if_pos h3] at hst
   clear h3
   cases q9 : (us.toList == [95]) with
   | true =>
    have hst2 : Hid (fpL [] (o.take (i + 1)) = ns) := by
     show _ = _
     rw [hst]; unfold putL newN; rw [q9]; simp
    clear hst
    have q10 : (us.toList != [95]) = false := by simpa using q9
    go_wp2_with fail
    exact ⟨⟨i + 1, hlt, by go_num, by rw [hst2.out]; exact hNs, hG⟩, by simp [intOf]; omega⟩
   | false =>
    have q10 : (us.toList != [95]) = true := by simpa using q9
    cases qh : inL ns us with
    | true =>
     have hst2 : Hid (fpL [] (o.take (i + 1)) = ns) := by
      show _ = _
      rw [hst]; unfold putL newN; rw [qh]; simp
     clear hst
     rw [qh] at hhas
     go_wp2_with fail
     refine (hhas.out _ (Gr.refl _ _)).mono ?_
     rintro e w4 ⟨rfl, rfl⟩
     go_wp2_with fail
     exact ⟨⟨i + 1, hlt, by go_num, by rw [hst2.out]; exact hNs, hG⟩, by simp [intOf]; omega⟩
    | false =>
     have hst2 : Hid (fpL [] (o.take (i + 1)) = ns ++ [us]) := by
      show _ = _
      rw [hst]; unfold putL newN; rw [qh, q9]; simp
     clear hst
     rw [qh] at hhas
     go_wp2_with fail
     refine (hhas.out _ (Gr.refl _ _)).mono ?_
     rintro e w4 ⟨rfl, rfl⟩
     go_wp2_with (first
      | (at_builtin; refine wpList_ns rfl _ _ rfl w1.heap.size _ ns w4.heap.size us rfl rfl (hNs.g0 (Gr.alloc w4 _ _)) (new_cell w4 us) hnl.out ?_; intro v5 w5 hN5 g5; obtain ⟨a5, c5, rfl⟩ := hN5.sv)
      | fail)
     have G5 : Gr (fun _ => False) w1 w5 := (hG.trans (Gr.alloc w4 (.cells #[.string us] 9) _)).trans' g5 (fun k hk e => by omega)
     have hl5 : (ns ++ [us]).length = ns.length + 1 := by simp
     have hN6 : Ns w1.heap.size w5 (.slice a5 (ns.length + 1) c5) (fpL [] (o.take (i + 1))) := by rw [hst2.out, ← hl5]; exact hN5
     exact ⟨⟨i + 1, hlt, by go_num, hN6, G5⟩, by simp [intOf]; omega⟩
  ·
   have h1 : decide ((i : Int) < (o.length : Int)) = false := by simp; omega
   obtain rfl : i = o.length := by omega
   rw [List.take_length, hfin.out] at hNs
   obtain ⟨na, nc, rfl⟩ := hNs.sv
   go_wp2_with fail
   go_ret
   exact ⟨_, rfl, ⟨hNs.len, ownsRow_base hNs.row G1.size, Nat.le_trans G1.size hNs.bas⟩, G1.trans hG⟩
set_option maxRecDepth 100000 in
set_option maxHeartbeats 1600000 in
theorem rmuch_c (W : World) (T : Tr) (v : Value) (hR : RepG (fun z => z < W.heap.size) W T v) (hpl : (preL [T]).length ≤ 4000) :
 Calls Tryz.prog 28 #[v] W fun e w' => e = .returned (.bool (overV T)) ∧ Gr (fun _ => False) W w' := by
 obtain ⟨k, s, n, b, l⟩ := T
 have hl : l.length ≤ 4000 := by
  have := preL_len l
  rw [preL_cons, preL_nil, List.append_nil, List.length_cons] at hpl
  omega
 have hlI : (l.length : Int) ≤ 4000 := by omega
 have hsl : Hid (∀ w, Gr (fun _ => False) W w → Calls Tryz.prog 21 #[v] w fun e w' => ∃ v', e = .returned v' ∧ Ns w.heap.size w' v' (slotV (.mk k s n b l)) ∧ Gr (fun _ => False) w w') := fun w gw =>
  rslots_c w k s n b l v (hR.turn (fun z hz hl => ⟨Nat.lt_of_lt_of_le hz gw.size, gw.block z hl (fun e => e)⟩)) hpl
 obtain ⟨ba, bc, la, lc, rfl, _⟩ := rep_row hR
 have gA := Gr.alloc W (.cells #[.int .i64 k, .string s, .int .i64 n, .slice ba b.length bc, .slice la l.length lc] 25) (fun _ => False)
 obtain ⟨⟨m0, m1, m2, m3, m4⟩, _⟩ := five_cells (heap_alloc_new W (.cells #[.int .i64 k, .string s, .int .i64 n, .slice ba b.length bc, .slice la l.length lc] 25))
 clear hR hpl hl
 by_cases h18 : k = 18
 ·
  subst h18
  show Calls Tryz.prog 28 _ W fun e w' => e = .returned (.bool (decide (64 < (l.length : Int)))) ∧ Gr (fun _ => False) W w'
  clear hsl
  cases q : decide (64 < (l.length : Int))
  all_goals
   go_enter Tryz.func28, Tryz.ntmps28
   go_wp2_with fail
   go_ret
   exact ⟨rfl, gA⟩
 by_cases h17 : k = 17
 ·
  subst h17
  show Calls Tryz.prog 28 _ W fun e w' => e = .returned (.bool (decide (8 < (l.length : Int) - 1) || decide (64 < ((slotV (.mk 17 s n b l)).length : Int)))) ∧ Gr (fun _ => False) W w'
  rw [show decide (8 < (l.length : Int) - 1) = decide (9 < (l.length : Int)) by rw [decide_eq_decide]; omega]
  generalize slotV (.mk 17 s n b l) = sl at hsl ⊢
  cases d1 : decide (9 < (l.length : Int)) with
  | true =>
   clear hsl
   go_enter Tryz.func28, Tryz.ntmps28
   go_wp2_with fail
   go_ret
   exact ⟨rfl, gA⟩
  | false =>
   cases d2 : decide (64 < (sl.length : Int))
   all_goals
    go_enter Tryz.func28, Tryz.ntmps28
    go_wp2_with fail
    refine (hsl.out _ gA).mono ?_
    rintro e w2 ⟨v', rfl, hN2, g2⟩
    obtain ⟨sa, sc, rfl⟩ := hN2.sv
    have x0 := cell_gr m0 g2 (fun e => e)
    have x4 := cell_gr m4 g2 (fun e => e)
    have hz2 : W.heap.size < w2.heap.size := World.block_lt_of_cell? _ _ x0
    go_wp2_with fail
    go_ret
    exact ⟨rfl, gA.trans g2⟩
 by_cases h11 : k = 11
 ·
  subst h11
  show Calls Tryz.prog 28 _ W fun e w' => e = .returned (.bool (decide (8 < (l.length : Int)))) ∧ Gr (fun _ => False) W w'
  clear hsl
  cases q : decide (8 < (l.length : Int))
  all_goals
   go_enter Tryz.func28, Tryz.ntmps28
   go_wp2_with fail
   go_ret
   exact ⟨rfl, gA⟩
 by_cases h5 : k = 5
 ·
  subst h5
  show Calls Tryz.prog 28 _ W fun e w' => e = .returned (.bool (decide (256 < (l.length : Int)))) ∧ Gr (fun _ => False) W w'
  clear hsl
  cases q : decide (256 < (l.length : Int))
  all_goals
   go_enter Tryz.func28, Tryz.ntmps28
   go_wp2_with fail
   go_ret
   exact ⟨rfl, gA⟩
 by_cases h6 : k = 6
 ·
  subst h6
  show Calls Tryz.prog 28 _ W fun e w' => e = .returned (.bool (decide (256 < (l.length : Int)))) ∧ Gr (fun _ => False) W w'
  clear hsl
  cases q : decide (256 < (l.length : Int))
  all_goals
   go_enter Tryz.func28, Tryz.ntmps28
   go_wp2_with fail
   go_ret
   exact ⟨rfl, gA⟩
 have e : overV (.mk k s n b l) = false := by
  show (if k = 18 then _ else _) = false
  rw [if_neg h18, if_neg h17, if_neg h11, if_neg (by omega)]
 rw [e]
 have q1 : (k == 18) = false := by simpa using h18
 have q2 : (k == 17) = false := by simpa using h17
 have q3 : (k == 11) = false := by simpa using h11
 have q4 : (k == 5) = false := by simpa using h5
 have q5 : (k == 6) = false := by simpa using h6
 clear hsl e
 go_enter Tryz.func28, Tryz.ntmps28
 go_wp2_with fail
 go_ret
 exact ⟨rfl, gA⟩
end Go.Proofs.YtjedbfbolifjjaaGreatDoor

namespace Go.Proofs.YtjedbfbolifjjaaGreatDoor
open Go.RowKit Go.Maps
def prmT : Tr → List ByteArray
 | .mk _ _ _ _ l => l.dropLast.map nmT
/-- Does a name come twice, but the blank one? -/
def prR (pre : List ByteArray) : List ByteArray → Bool
 | [] => false
 | x :: r => (!(x.toList == [95]) && inL pre x) || prR (pre ++ [x]) r
def smH (V U : Tr) : Bool := match V, U with
 | .mk _ s _ _ l, .mk _ t _ _ m => (t.toList == s.toList) && ((m.length : Int) == (l.length : Int))
def duR (pre : List Tr) : List Tr → Bool
 | [] => false
 | V :: r => (pre.any (smH V) || prR [] (prmT V)) || duR (pre ++ [V]) r
def nbR : Tr → Bool
 | .mk _ s _ _ l => decide (0 < (biV s ((l.length : Int) - 1) : Int))
def pwR : Tr → Bool
 | .mk k _ _ _ l => ((k == 9) || (k == 15)) && !(l.head?.map patV).getD false
def unR : Tr → Bool
 | .mk _ _ _ _ l => (l.getLast?.map fun B => (lk 30000 (putsT [] l.dropLast) B).1).getD false
def caR (l : List Tr) : Tr → Bool
 | .mk k s _ _ m => (k == 11) && ((biV s (m.length : Int) : Int) == 0) && !l.any (thT s (m.length : Int))
def rf8 (l : List Tr) : Int := if l.any (thT mainB 0) = true then 0 else 176
def rf7 (l Q : List Tr) : Int → Int := fun e => if Q.any (caR l) = true then 175 else e
def rf6 (Q : List Tr) : Int → Int := fun e => if Q.any unR = true then 174 else e
def rf5 (Q : List Tr) : Int → Int := fun e => if Q.any pwR = true then 173 else e
def rf4 (Q : List Tr) : Int → Int := fun e => if Q.any nbR = true then 172 else e
def rf3 (pre Q : List Tr) : Int → Int := fun e => if duR pre Q = true then 171 else e
def rf2 (Q : List Tr) : Int → Int := fun e => if Q.any overV = true then 170 else e
def rf1 (k : Int) (Q : List Tr) : Int → Int := fun e => if Q.any (fun U => misV U || (k != 18)) = true then 177 else e
/-- What the reference's Check answers. -/
def refV : Tr → Int
 | .mk k s n b l => if 4000 < (preL [Tr.mk k s n b l]).length then 170 else rf1 k (preL [Tr.mk k s n b l]) (rf2 (preL [Tr.mk k s n b l]) (rf3 [] l (rf4 l (rf5 (preL [Tr.mk k s n b l]) (rf6 l (rf7 l (preL [Tr.mk k s n b l]) (rf8 l)))))))
theorem prR_tw (l : List Tr) : ∀ (pre : List ByteArray) (L : List ByteArray), (∀ x : ByteArray, ¬ x.toList = [95] → (inL L x = inL pre x)) → twL L l = prR pre (l.map nmT) := by
 induction l with
 | nil => intro pre L h; rfl
 | cons T l ih =>
  intro pre L h
  obtain ⟨k, s, n, b, q⟩ := T
  rw [List.map_cons]
  show twL L (.mk k s n b q :: l) = ((!(s.toList == [95]) && inL pre s) || prR (pre ++ [s]) (l.map nmT))
  rw [twL]
  by_cases hs : s.toList = [95]
  ·
   rw [if_pos (by simpa using hs)]
   have : (s.toList == [95]) = true := by simpa using hs
   rw [this]
   simp only [Bool.not_true, Bool.false_and, Bool.false_or]
   refine ih _ _ (fun x hx => ?_)
   rw [inL_app, h x hx]
   have : ¬ s = x := fun e => hx (e ▸ hs)
   simp [this]
  ·
   have hb : (s.toList == [95]) = false := by simpa using hs
   rw [if_neg (by simpa using hs), hb]
   have hh := h s hs
   cases hp : inL pre s with
   | true =>
    rw [hp] at hh
    rw [if_neg (by simp [newN, hh])]
    rfl
   | false =>
    rw [hp] at hh
    rw [if_pos (by simp [newN, hh, hb])]
    simp only [Bool.not_false, Bool.and_false, Bool.false_or]
    refine ih _ _ (fun x hx => ?_)
    rw [inL_app, inL_app, h x hx]
theorem pt_pr {s : ByteArray} {n : Int} {b : List Int} {l : List Tr} : ptV (.mk 17 s n b l) = prR [] (prmT (.mk 17 s n b l)) := by
 show ((17 : Int) == 17 && twL [] (l.take (l.length - 1))) = prR [] (l.dropLast.map nmT)
 rw [← List.dropLast_eq_take]
 simpa using prR_tw l.dropLast [] [] (fun _ _ => rfl)
/-- Heads: one comes twice. -/
def hdR (L : List (ByteArray × Int)) : List Tr → Bool
 | [] => false
 | V :: r => inH L (hdT V) || hdR (L ++ [hdT V]) r
theorem hdR_len (l : List Tr) : ∀ L, decide ((hdsL L l).length < L.length + l.length) = hdR L l := by
 induction l with
 | nil => intro L; simp [hdsL, hdR]
 | cons V l ih =>
  intro L
  have e : hdsL L (V :: l) = hdsL (putH L (hdT V)) l := rfl
  rw [e]
  unfold hdR
  cases h : inH L (hdT V) with
  | true =>
   have : putH L (hdT V) = L := by unfold putH; rw [if_pos h]
   rw [this]
   have := hdsL_len l L
   simp; omega
  | false =>
   have e2 : putH L (hdT V) = L ++ [hdT V] := by unfold putH; rw [if_neg (by rw [h]; simp)]
   rw [e2, Bool.false_or, ← ih (L ++ [hdT V]), decide_eq_decide]
   rw [List.length_append, List.length_singleton, List.length_cons]
   omega
theorem smH_hd (V U : Tr) : smH V U = decide (hdT U = hdT V) := by
 obtain ⟨k, s, n, b, l⟩ := V
 obtain ⟨k', t, n', b', m⟩ := U
 show ((t.toList == s.toList) && ((m.length : Int) == (l.length : Int))) = decide ((t, (m.length : Int) - 1) = (s, (l.length : Int) - 1))
 rw [bs_eq, Bool.eq_iff_iff]
 simp only [Bool.and_eq_true, decide_eq_true_eq, beq_iff_eq, Prod.mk.injEq]
 constructor
 · rintro ⟨a, b⟩; exact ⟨a, by omega⟩
 · rintro ⟨a, b⟩; exact ⟨a, by omega⟩
theorem duR_hd (l : List Tr) : ∀ pre, duR pre l = (hdR (pre.map hdT) l || l.any (fun V => prR [] (prmT V))) := by
 induction l with
 | nil => intro pre; rfl
 | cons V l ih =>
  intro pre
  show ((pre.any (smH V) || prR [] (prmT V)) || duR (pre ++ [V]) l) = ((inH (pre.map hdT) (hdT V) || hdR (pre.map hdT ++ [hdT V]) l) || (prR [] (prmT V) || l.any (fun V => prR [] (prmT V))))
  rw [ih (pre ++ [V]), List.map_append, List.map_singleton]
  have : pre.any (smH V) = inH (pre.map hdT) (hdT V) := by
   unfold inH
   rw [List.any_map]
   congr 1
   funext U
   exact smH_hd V U
  rw [this]
  cases inH (pre.map hdT) (hdT V) <;> cases prR [] (prmT V) <;> simp
theorem inH_hds (l : List Tr) : ∀ L h, inH (hdsL L l) h = (inH L h || l.any (fun V => decide (hdT V = h))) := by
 induction l with
 | nil => intro L h; simp [hdsL]
 | cons V l ih =>
  intro L h
  have e : hdsL L (V :: l) = hdsL (putH L (hdT V)) l := rfl
  rw [e, ih, List.any_cons]
  unfold putH
  split
  · rename_i hin
    by_cases hv : hdT V = h
    · subst hv
      rw [hin]; simp
    · simp [hv]
  · rw [inH_app]
    cases inH L h <;> simp
theorem thT_hd (s : ByteArray) (m : Int) : thT s m = fun V => decide (hdT V = (s, m)) := by
 funext V
 obtain ⟨k, t, n, b, l⟩ := V
 show ((t.toList == s.toList) && (((l.length : Int) - 1) == m)) = decide ((t, (l.length : Int) - 1) = (s, m))
 rw [bs_eq, Bool.eq_iff_iff]
 simp only [Bool.and_eq_true, decide_eq_true_eq, beq_iff_eq, Prod.mk.injEq]
theorem there_hds (l : List Tr) (s : ByteArray) (m : Int) : l.any (thT s m) = inH (hdsL [] l) (s, m) := by
 rw [inH_hds, thT_hd]; simp [inH]
theorem mis_parts {U : Tr} (h : misV U = false) : bareV U = true ∧ partsV U = true := by
 unfold misV at h
 cases h1 : bareV U <;> cases h2 : partsV U <;> simp [h1, h2] at h ⊢
theorem nil_or_last (l : List Tr) : l = [] ∨ ∃ ys A, l = ys ++ [A] := by
 rcases List.eq_nil_or_concat l with h | ⟨ys, A, h⟩
 · exact .inl h
 · exact .inr ⟨ys, A, by rw [h, List.concat_eq_append]⟩
def kdT : Tr → Int
 | .mk k _ _ _ _ => k
/-- The kinds of the parts within a part that is no program. -/
theorem kid_kind {V c : Tr} (h : misV V = false) (hk : kdT V ≠ 18) (hc : c ∈ V.l) : kdT c ≠ 17 ∧ kdT c ≠ 18 := by
 obtain ⟨k, s, n, b, l⟩ := V
 obtain ⟨hb, hp⟩ := mis_parts h
 replace hk : k ≠ 18 := hk
 replace hc : c ∈ l := hc
 have ex : exV c = true → kdT c ≠ 17 ∧ kdT c ≠ 18 := fun e => by
  obtain ⟨ck, cs, cn, cb, cl⟩ := c
  simp [exV] at e
  exact ⟨fun q => by have : ck = 17 := q; omega, fun q => by have : ck = 18 := q; omega⟩
 have ik : ∀ m : Int, m ≠ 17 → m ≠ 18 → isK m c = true → kdT c ≠ 17 ∧ kdT c ≠ 18 := fun m h1 h2 e => by
  obtain ⟨ck, cs, cn, cb, cl⟩ := c
  have : ck = m := by simpa [isK] using e
  exact ⟨fun q => h1 (this ▸ q), fun q => h2 (this ▸ q)⟩
 simp only [partsV] at hp
 split at hp
 ·
  rename_i h4
  exfalso
  have : zL k = true := by rcases h4 with rfl | rfl | rfl | rfl <;> rfl
  simp only [bareV, this, Bool.and_eq_true, Bool.not_true, Bool.false_or, beq_iff_eq, List.length_eq_zero_iff] at hb
  rw [hb.2] at hc
  cases hc
 split at hp
 · exact ex (List.all_eq_true.1 hp c hc)
 split at hp
 · exact ex (List.all_eq_true.1 (Bool.and_eq_true_iff.1 hp).2 c hc)
 split at hp
 · exact ex (List.all_eq_true.1 (Bool.and_eq_true_iff.1 hp).2 c hc)
 split at hp
 ·
  match l, hc, hp with
  | A :: r, hc, hp =>
   simp only [List.head?_cons, Option.map_some, Option.getD_some, List.drop_succ_cons, List.drop_zero, Bool.and_eq_true] at hp
   rcases List.mem_cons.1 hc with rfl | hc
   · exact ex hp.1.2
   · exact ik 15 (by decide) (by decide) (List.all_eq_true.1 hp.2 c hc)
 split at hp
 ·
  have hp2 := (Bool.and_eq_true_iff.1 hp).2
  unfold clsV at hp2
  by_cases ha : aftV l = true
  ·
   rw [if_pos ha] at hp2
   rcases nil_or_last l with rfl | ⟨ys, A, rfl⟩
   · cases hc
   · rw [List.dropLast_concat] at hp2
     simp only [aftV, List.getLast?_append, List.getLast?_singleton, Option.some_or, Option.map_some, Option.getD_some] at ha
     rcases List.mem_append.1 hc with hc | hc
     · exact ik 15 (by decide) (by decide) (List.all_eq_true.1 hp2 c hc)
     · rw [List.mem_singleton] at hc
       subst hc
       exact ik 14 (by decide) (by decide) ha
  · rw [if_neg ha] at hp2
    exact ik 15 (by decide) (by decide) (List.all_eq_true.1 hp2 c hc)
 split at hp
 ·
  match l, hc, hp with
  | [], hc, hp => cases hc
  | [A], hc, hp => simp at hp
  | [A, B], hc, hp =>
   simp at hp
   simp only [List.mem_cons, List.not_mem_nil, or_false] at hc
   rcases hc with rfl | rfl
   · exact ex hp.1
   · exact ik 16 (by decide) (by decide) hp.2
  | A :: B :: C :: r, hc, hp => simp at hp; omega
 split at hp
 · exact ex (List.all_eq_true.1 (Bool.and_eq_true_iff.1 hp).2 c hc)
 split at hp
 ·
  rcases nil_or_last l with rfl | ⟨ys, A, rfl⟩
  · cases hc
  · simp only [List.dropLast_concat, List.getLast?_append, List.getLast?_singleton, Option.some_or, Option.map_some, Option.getD_some, Bool.and_eq_true] at hp
    rcases List.mem_append.1 hc with hc | hc
    · exact ik 3 (by decide) (by decide) (List.all_eq_true.1 hp.1.2 c hc)
    · rw [List.mem_singleton] at hc
      subst hc
      exact ik 16 (by decide) (by decide) hp.2
 cases hp
/-- No function stands within what is no program. -/
theorem no17 (V : Tr) : (∀ U ∈ preL [V], misV U = false) → kdT V ≠ 18 → ∀ U ∈ preL V.l, kdT U ≠ 17 :=
 Tr.rec (motive_1 := fun V => (∀ U ∈ preL [V], misV U = false) → kdT V ≠ 18 → ∀ U ∈ preL V.l, kdT U ≠ 17)
  (motive_2 := fun l => (∀ U ∈ preL l, misV U = false) → (∀ c ∈ l, kdT c ≠ 17 ∧ kdT c ≠ 18) → ∀ U ∈ preL l, kdT U ≠ 17)
  (fun k s n b l ih h hk U hU => by
    refine ih (fun W hW => h W ?_) (fun c hc => kid_kind (h (.mk k s n b l) (self_pre _)) hk hc) U hU
    rw [preL_cons, preL_nil, List.append_nil]
    exact List.mem_cons_of_mem _ hW)
  (fun _ _ U hU => by rw [preL_nil] at hU; cases hU)
  (fun T l h1 h2 h hk U hU => by
    have e : preL (T :: l) = preL [T] ++ preL l := preL_app [T] l
    rw [e] at hU h
    rcases List.mem_append.1 hU with hU | hU
    · obtain ⟨k, s, n, b, q⟩ := T
      rw [preL_cons, preL_nil, List.append_nil] at hU
      rcases List.mem_cons.1 hU with rfl | hU
      · exact (hk _ (by simp)).1
      · exact h1 (fun W hW => h W (List.mem_append_left _ hW)) (hk _ (by simp)).2 U hU
    · exact h2 (fun W hW => h W (List.mem_append_right _ hW)) (fun c hc => hk c (by simp [hc])) U hU) V
theorem prog_kid {s : ByteArray} {n : Int} {b : List Int} {l : List Tr} (h : misV (.mk 18 s n b l) = false) : ∀ V ∈ l, kdT V = 17 := fun V hV => by
 obtain ⟨_, hp⟩ := mis_parts h
 simp [partsV] at hp
 obtain ⟨k, t, m, c, q⟩ := V
 have := hp _ hV
 show k = 17
 simpa [isK] using this
/-- What is asked of functions alone is asked of the program's own. -/
theorem any17 {s : ByteArray} {n : Int} {b : List Int} {l : List Tr} (h : ∀ U ∈ preL [Tr.mk 18 s n b l], misV U = false) (P : Tr → Bool) (hP : ∀ U, kdT U ≠ 17 → P U = false) : (preL [Tr.mk 18 s n b l]).any P = l.any P := by
 have h0 := h _ (self_pre _)
 rw [preL_cons, preL_nil, List.append_nil, List.any_cons, hP _ (by show (18 : Int) ≠ 17; decide), Bool.false_or]
 have hk := prog_kid h0
 have hsub : ∀ U ∈ preL l, misV U = false := fun U hU => h U (by rw [preL_cons, preL_nil, List.append_nil]; exact List.mem_cons_of_mem _ hU)
 clear h h0
 induction l with
 | nil => rw [preL_nil]
 | cons V l ih =>
  have e : preL (V :: l) = preL [V] ++ preL l := preL_app [V] l
  rw [e] at hsub ⊢
  rw [List.any_append, List.any_cons, ih (fun c hc => hk c (by simp [hc])) (fun U hU => hsub U (List.mem_append_right _ hU))]
  congr 1
  have hv := hk V (by simp)
  have hn := no17 V (fun U hU => hsub U (List.mem_append_left _ hU)) (by rw [hv]; decide)
  obtain ⟨k, t, m, c, q⟩ := V
  rw [preL_cons, preL_nil, List.append_nil, List.any_cons]
  have : (preL q).any P = false := by
   rw [List.any_eq_false]
   intro U hU
   rw [hP U (hn U hU)]; simp
  rw [this, Bool.or_false]
theorem any_cong {p q : Tr → Bool} {l : List Tr} (h : ∀ U ∈ l, p U = q U) : l.any p = l.any q := by
 induction l with
 | nil => rfl
 | cons a l ih => rw [List.any_cons, List.any_cons, h a (by simp), ih (fun U hU => h U (by simp [hU]))]
theorem ite_cong {a b : Bool} {x y : Int} (h : a = b) (h2 : a = false → x = y) (c : Int) : (if a = true then c else x) = if b = true then c else y := by
 subst h
 cases a
 · simpa using h2 rfl
 · rfl
theorem refV_chk (T : Tr) : refV T = chkV T := by
 obtain ⟨k, s, n, b, l⟩ := T
 unfold refV chkV
 dsimp only
 generalize hP : preL [Tr.mk k s n b l] = P
 have e0 : crowdV (.mk k s n b l) = decide (4000 < P.length) := by rw [← hP]; rfl
 rw [e0]
 by_cases h0 : 4000 < P.length
 · rw [if_pos h0, if_pos (by simpa using h0)]
 rw [if_neg h0, if_neg (by simpa using h0)]
 have e1 : P.any (fun U => misV U || (k != 18)) = ((k != 18) || P.any misV) := by
  have hne : P ≠ [] := by rw [← hP, preL_cons]; simp
  cases hk : (k != 18)
  · simp
  · obtain ⟨a, r, rfl⟩ := List.exists_cons_of_ne_nil hne
    simp
 unfold rf1
 refine ite_cong e1 (fun hno => ?_) _
 rw [e1, Bool.or_eq_false_iff] at hno
 obtain ⟨hk, hm⟩ := hno
 have hk : k = 18 := by simpa using hk
 subst hk
 have hmis : ∀ U ∈ preL [Tr.mk 18 s n b l], misV U = false := fun U hU => by
  rw [hP] at hU
  simpa using (List.any_eq_false.1 hm) U hU
 have hkid := prog_kid (hmis _ (self_pre _))
 unfold rf2
 refine ite_cong rfl (fun _ => ?_) _
 unfold rf3
 have e3 : duR [] l = (decide (((hdsL [] l).length : Int) < (l.length : Int)) || P.any ptV) := by
  rw [duR_hd, ← hP, any17 hmis ptV (fun U hU => by obtain ⟨uk, us, un, ub, ul⟩ := U; simp [ptV]; intro q; exact absurd q hU)]
  have := hdR_len l []
  rw [List.map_nil, ← this]
  congr 1
  · rw [decide_eq_decide]; simp
  · refine any_cong fun V hV => ?_
    have := hkid V hV
    obtain ⟨vk, vs, vn, vb, vl⟩ := V
    replace this : vk = 17 := this
    subst this
    exact pt_pr.symm
 refine ite_cong e3 (fun _ => ?_) _
 unfold rf4
 refine ite_cong ?_ (fun _ => ?_) _
 ·
  rw [← hP, any17 hmis nbV (fun U hU => by obtain ⟨uk, us, un, ub, ul⟩ := U; simp [nbV]; intro q; exact absurd q hU)]
  refine any_cong fun V hV => ?_
  have := hkid V hV
  obtain ⟨vk, vs, vn, vb, vl⟩ := V
  replace this : vk = 17 := this
  subst this
  simp only [nbR, nbV]
  rw [Bool.eq_iff_iff]
  simp
  omega
 unfold rf5
 refine ite_cong rfl (fun _ => ?_) _
 unfold rf6
 refine ite_cong ?_ (fun _ => ?_) _
 ·
  rw [← hP, any17 hmis unbV (fun U hU => by obtain ⟨uk, us, un, ub, ul⟩ := U; simp [unbV]; intro q; exact absurd q hU)]
  refine any_cong fun V hV => ?_
  have := hkid V hV
  obtain ⟨vk, vs, vn, vb, vl⟩ := V
  replace this : vk = 17 := this
  subst this
  simp [unR, unbV]
 unfold rf7
 refine ite_cong ?_ (fun _ => ?_) _
 · refine any_cong fun V _ => ?_
   obtain ⟨vk, vs, vn, vb, vl⟩ := V
   simp only [caR, uncV]
   rw [there_hds]
 unfold rf8
 rw [there_hds]
 cases inH (hdsL [] l) (mainB, 0) <;> rfl
end Go.Proofs.YtjedbfbolifjjaaGreatDoor
