/-
  Has a text this error; the chapter's examples.
  The law CheckTables.
-/
import Derived.Test.YtjedbfbolifjjaaGreatDoorMF
import Derived.Test.YtjedbfbolifjjaaGreatDoorKD
set_option linter.unusedVariables false
set_option linter.unusedSimpArgs false
namespace Go.Proofs.YtjedbfbolifjjaaGreatDoor
open Go.RowKit Go.Maps
variable {W W' : World}
def txV (s : ByteArray) (e : Int) : Bool := match textV s with
  | .ok T => chkV T == e
  | .error _ => false
set_option maxRecDepth 100000 in
set_option maxHeartbeats 1600000 in
theorem istx_c (W : World) (s : ByteArray) (e : Int) (hE : Er W) (hS : Sg W) (hL : Lv W) (hB : Bu W) (hz : ∀ T, textV s = .ok T → Szs [T]) : Calls Tryz.prog 24 #[.string s, .int .i64 e] W fun x w' => x = .returned (.bool (txV s e)) ∧ Gr (fun _ => False) W w' := by
  have ht := tree_c W s hE hS hL
  unfold txV
  cases hv : textV s with
  | error p =>
    rw [hv] at ht
    replace ht := Lib.hid ht
    clear hE hS hL hB hz hv
    go_enter Tryz.func24, Tryz.ntmps24
    go_wp2_with fail
    refine ht.out.mono ?_
    rintro x w1 ⟨rfl, g1⟩
    have gA := Gr.alloc w1 (.cells zc 25) (fun _ => False)
    go_wp2_with fail
    go_ret
    exact ⟨rfl, g1.trans gA⟩
  | ok T =>
    rw [hv] at ht
    have hs := hz T hv
    show Calls Tryz.prog 24 #[.string s, .int .i64 e] W fun x w' => x = .returned (.bool (chkV T == e)) ∧ Gr (fun _ => False) W w'
    generalize hcv : chkV T = c
    replace hcv := Lib.hid hcv
    replace ht := Lib.hid ht
    replace hB := Lib.hid hB
    clear hE hS hL hz hv
    go_enter Tryz.func24, Tryz.ntmps24
    go_wp2_with fail
    refine ht.out.mono ?_
    rintro x w1 ⟨v, rfl, rep, g1⟩
    obtain ⟨tk, tt, tn, a1, n1, c1, a2, n2, c2, rfl⟩ := rep.agg
    have gA := Gr.alloc w1 (.cells #[.int .i64 tk, .string tt, .int .i64 tn, .slice a1 n1 c1, .slice a2 n2 c2] 25) (fun _ => False)
    obtain ⟨⟨k0, k1, k2, k3, k4⟩, _⟩ := five_cells (heap_alloc_new w1 (.cells #[.int .i64 tk, .string tt, .int .i64 tn, .slice a1 n1 c1, .slice a2 n2 c2] 25))
    have hc := check_c (w1.alloc (.cells #[.int .i64 tk, .string tt, .int .i64 tn, .slice a1 n1 c1, .slice a2 n2 c2] 25)) T _ ((rep.gr gA (fun k hk e => e)).gen.turn (fun z hz' hl => ⟨hl, rfl⟩)) hs (Bu.gr hB.out (g1.trans gA) (fun e => e))
    rw [hcv.out] at hc
    replace hc := Lib.hid hc
    clear rep
    go_wp2_with fail
    refine hc.out.mono ?_
    rintro x w2 ⟨rfl, g2⟩
    go_wp2_with fail
    go_ret
    exact ⟨rfl, (g1.trans gA).trans g2⟩
theorem txV_of {s : ByteArray} {e : Int} {T : Tr} (h : textV s = .ok T) (hz : Szs [T]) (hc : chkV T = e) : txV s e = true ∧ ∀ T, textV s = .ok T → Szs [T] := by
  unfold txV
  rw [h]
  refine ⟨by simpa using hc, fun T' e' => ?_⟩
  cases e'
  exact hz
abbrev xB : ByteArray := ⟨#[88]⟩
abbrev yB : ByteArray := ⟨#[89]⟩
abbrev fB : ByteArray := ⟨#[102]⟩
abbrev plB : ByteArray := ⟨#[43]⟩
abbrev tX : Tr := .mk 3 xB 0 [] []
abbrev tY : Tr := .mk 3 yB 0 [] []
abbrev tI (n : Int) : Tr := .mk 1 e0 n [] []
abbrev tE (l : List Tr) : Tr := .mk 9 e0 0 [] l
abbrev tB (l : List Tr) : Tr := .mk 16 e0 0 [] l
abbrev mainT (l : List Tr) : Tr := .mk 18 e0 0 [] [.mk 17 mainB 0 [] [tB l]]
def chkW (b1 b2 b3 b4 b5 b6 b7 b8 b9 : Bool) : Int :=
  if b1 = true then 170 else if b2 = true then 177 else if b3 = true then 170 else if b4 = true then 171 else if b5 = true then 172 else if b6 = true then 173 else if b7 = true then 174 else if b8 = true then 175 else if b9 = true then 176 else 0
theorem chkV_W (k : Int) (s : ByteArray) (n : Int) (b : List Int) (l : List Tr) : chkV (.mk k s n b l) = chkW (crowdV (.mk k s n b l)) ((k != 18) || (preL [Tr.mk k s n b l]).any misV) ((preL [Tr.mk k s n b l]).any overV) (decide (((hdsL [] l).length : Int) < (l.length : Int)) || (preL [Tr.mk k s n b l]).any ptV) ((preL [Tr.mk k s n b l]).any nbV) ((preL [Tr.mk k s n b l]).any pwV) ((preL [Tr.mk k s n b l]).any unbV) ((preL [Tr.mk k s n b l]).any (uncV (hdsL [] l))) (!inH (hdsL [] l) (mainB, 0)) := rfl
abbrev tx1 : ByteArray := { data := #[109, 97, 105, 110, 40, 41, 32, 45, 62, 32, 88, 46] }
abbrev TT1 : Tr := mainT [tX]
set_option maxRecDepth 100000 in
theorem rd1 : textV tx1 = .ok TT1 := by kernel_rfl
set_option maxRecDepth 100000 in
theorem ck1 : Szs [TT1] ∧ chkV TT1 = 174 := by
  obtain ⟨L, hp⟩ : ∃ L, L = preL [TT1] := ⟨_, rfl⟩
  have hp' := hp
  simp only [preL_cons, preL_nil, List.append_nil, List.nil_append, List.cons_append] at hp'
  have h1 : crowdV TT1 = false := by unfold crowdV; rw [← hp, hp']; rfl
  have h2 : L.any misV = false := by rw [hp']; decide +kernel
  have h3 : L.any overV = false := by rw [hp']; simp [overV, slotV, slL, preL_cons, preL_nil, goA, pst, putL, newN, inL]
  have h4 : (decide (((hdsL [] TT1.l).length : Int) < (TT1.l.length : Int)) || L.any ptV) = false := by rw [hp']; decide +kernel
  have h5 : L.any nbV = false := by rw [hp']; decide +kernel
  have h6 : L.any pwV = false := by rw [hp']; simp [pwV, patV_mk, isK, patL_all]
  have h7 : L.any unbV = true := by rw [hp']; simp [unbV, lk, putsT, putT, goA, pst, putL, newN, inL, aftV, preL_cons, preL_nil]
  refine ⟨fun U hU => ?_, ?_⟩
  · rw [← hp, hp'] at hU
    simp only [List.mem_cons, List.not_mem_nil, or_false] at hU
    rcases hU with rfl | rfl | rfl | rfl <;> exact ⟨by decide, by decide⟩
  · rw [chkV_W, ← hp, h1, h2, h3, h4, h5, h6, h7]
    rfl
abbrev tx2 : ByteArray := { data := #[109, 97, 105, 110, 40, 41, 32, 45, 62, 32, 88, 32, 61, 32, 49, 44, 32, 88, 32, 61, 32, 50, 46] }
abbrev TT2 : Tr := mainT [tE [tX, tI 1], tE [tX, tI 2]]
set_option maxRecDepth 100000 in
theorem rd2 : textV tx2 = .ok TT2 := by kernel_rfl
set_option maxRecDepth 100000 in
theorem ck2 : Szs [TT2] ∧ chkV TT2 = 0 := by
  obtain ⟨L, hp⟩ : ∃ L, L = preL [TT2] := ⟨_, rfl⟩
  have hp' := hp
  simp only [preL_cons, preL_nil, List.append_nil, List.nil_append, List.cons_append] at hp'
  have h1 : crowdV TT2 = false := by unfold crowdV; rw [← hp, hp']; rfl
  have h2 : L.any misV = false := by rw [hp']; decide +kernel
  have h3 : L.any overV = false := by rw [hp']; simp [overV, slotV, slL, preL_cons, preL_nil, goA, pst, putL, newN, inL]
  have h4 : (decide (((hdsL [] TT2.l).length : Int) < (TT2.l.length : Int)) || L.any ptV) = false := by rw [hp']; decide +kernel
  have h5 : L.any nbV = false := by rw [hp']; decide +kernel
  have h6 : L.any pwV = false := by rw [hp']; simp [pwV, patV_mk, isK, patL_all]
  have h7 : L.any unbV = false := by rw [hp']; simp [unbV, lk, putsT, putT, goA, pst, putL, newN, inL, aftV, preL_cons, preL_nil]
  have h8 : L.any (uncV (hdsL [] TT2.l)) = false := by rw [hp']; decide +kernel
  have h9 : (!inH (hdsL [] TT2.l) (mainB, 0)) = false := by decide +kernel
  refine ⟨fun U hU => ?_, ?_⟩
  · rw [← hp, hp'] at hU
    simp only [List.mem_cons, List.not_mem_nil, or_false] at hU
    rcases hU with rfl | rfl | rfl | rfl | rfl | rfl | rfl | rfl | rfl <;> exact ⟨by decide, by decide⟩
  · rw [chkV_W, ← hp, h1, h2, h3, h4, h5, h6, h7, h8, h9]
    rfl
abbrev tx3 : ByteArray := { data := #[109, 97, 105, 110, 40, 41, 32, 45, 62, 32, 99, 97, 115, 101, 32, 49, 32, 111, 102, 32, 89, 32, 45, 62, 32, 89, 32, 101, 110, 100, 44, 32, 89, 46] }
abbrev TT3 : Tr := mainT [.mk 12 e0 0 [] [tI 1, .mk 15 e0 0 [] [tY, tB [tY]]], tY]
set_option maxRecDepth 100000 in
theorem rd3 : textV tx3 = .ok TT3 := by kernel_rfl
set_option maxRecDepth 100000 in
theorem ck3 : Szs [TT3] ∧ chkV TT3 = 174 := by
  obtain ⟨L, hp⟩ : ∃ L, L = preL [TT3] := ⟨_, rfl⟩
  have hp' := hp
  simp only [preL_cons, preL_nil, List.append_nil, List.nil_append, List.cons_append] at hp'
  have h1 : crowdV TT3 = false := by unfold crowdV; rw [← hp, hp']; rfl
  have h2 : L.any misV = false := by rw [hp']; decide +kernel
  have h3 : L.any overV = false := by rw [hp']; simp [overV, slotV, slL, preL_cons, preL_nil, goA, pst, putL, newN, inL]
  have h4 : (decide (((hdsL [] TT3.l).length : Int) < (TT3.l.length : Int)) || L.any ptV) = false := by rw [hp']; decide +kernel
  have h5 : L.any nbV = false := by rw [hp']; decide +kernel
  have h6 : L.any pwV = false := by rw [hp']; simp [pwV, patV_mk, isK, patL_all]
  have h7 : L.any unbV = true := by rw [hp']; simp [unbV, lk, putsT, putT, goA, pst, putL, newN, inL, aftV, preL_cons, preL_nil]
  refine ⟨fun U hU => ?_, ?_⟩
  · rw [← hp, hp'] at hU
    simp only [List.mem_cons, List.not_mem_nil, or_false] at hU
    rcases hU with rfl | rfl | rfl | rfl | rfl | rfl | rfl | rfl | rfl | rfl <;> exact ⟨by decide, by decide⟩
  · rw [chkV_W, ← hp, h1, h2, h3, h4, h5, h6, h7]
    rfl
abbrev tx4 : ByteArray := { data := #[109, 97, 105, 110, 40, 41, 32, 45, 62, 32, 102, 40, 41, 46] }
abbrev TT4 : Tr := mainT [.mk 11 fB 0 [] []]
set_option maxRecDepth 100000 in
theorem rd4 : textV tx4 = .ok TT4 := by kernel_rfl
set_option maxRecDepth 100000 in
theorem ck4 : Szs [TT4] ∧ chkV TT4 = 175 := by
  obtain ⟨L, hp⟩ : ∃ L, L = preL [TT4] := ⟨_, rfl⟩
  have hp' := hp
  simp only [preL_cons, preL_nil, List.append_nil, List.nil_append, List.cons_append] at hp'
  have h1 : crowdV TT4 = false := by unfold crowdV; rw [← hp, hp']; rfl
  have h2 : L.any misV = false := by rw [hp']; decide +kernel
  have h3 : L.any overV = false := by rw [hp']; simp [overV, slotV, slL, preL_cons, preL_nil, goA, pst, putL, newN, inL]
  have h4 : (decide (((hdsL [] TT4.l).length : Int) < (TT4.l.length : Int)) || L.any ptV) = false := by rw [hp']; decide +kernel
  have h5 : L.any nbV = false := by rw [hp']; decide +kernel
  have h6 : L.any pwV = false := by rw [hp']; simp [pwV, patV_mk, isK, patL_all]
  have h7 : L.any unbV = false := by rw [hp']; simp [unbV, lk, putsT, putT, goA, pst, putL, newN, inL, aftV, preL_cons, preL_nil]
  have h8 : L.any (uncV (hdsL [] TT4.l)) = true := by rw [hp']; decide +kernel
  have h9 : (!inH (hdsL [] TT4.l) (mainB, 0)) = false := by decide +kernel
  refine ⟨fun U hU => ?_, ?_⟩
  · rw [← hp, hp'] at hU
    simp only [List.mem_cons, List.not_mem_nil, or_false] at hU
    rcases hU with rfl | rfl | rfl | rfl <;> exact ⟨by decide, by decide⟩
  · rw [chkV_W, ← hp, h1, h2, h3, h4, h5, h6, h7, h8, h9]
    rfl
abbrev tx5 : ByteArray := { data := #[109, 97, 105, 110, 40, 41, 32, 45, 62, 32, 49, 32, 43, 32, 50, 32, 61, 32, 51, 46] }
abbrev TT5 : Tr := mainT [tE [.mk 8 plB 0 [] [tI 1, tI 2], tI 3]]
set_option maxRecDepth 100000 in
theorem rd5 : textV tx5 = .ok TT5 := by kernel_rfl
set_option maxRecDepth 100000 in
theorem ck5 : Szs [TT5] ∧ chkV TT5 = 173 := by
  obtain ⟨L, hp⟩ : ∃ L, L = preL [TT5] := ⟨_, rfl⟩
  have hp' := hp
  simp only [preL_cons, preL_nil, List.append_nil, List.nil_append, List.cons_append] at hp'
  have h1 : crowdV TT5 = false := by unfold crowdV; rw [← hp, hp']; rfl
  have h2 : L.any misV = false := by rw [hp']; decide +kernel
  have h3 : L.any overV = false := by rw [hp']; simp [overV, slotV, slL, preL_cons, preL_nil, goA, pst, putL, newN, inL]
  have h4 : (decide (((hdsL [] TT5.l).length : Int) < (TT5.l.length : Int)) || L.any ptV) = false := by rw [hp']; decide +kernel
  have h5 : L.any nbV = false := by rw [hp']; decide +kernel
  have h6 : L.any pwV = true := by rw [hp']; simp [pwV, patV_mk, isK, patL_all]
  refine ⟨fun U hU => ?_, ?_⟩
  · rw [← hp, hp'] at hU
    simp only [List.mem_cons, List.not_mem_nil, or_false] at hU
    rcases hU with rfl | rfl | rfl | rfl | rfl | rfl | rfl | rfl <;> exact ⟨by decide, by decide⟩
  · rw [chkV_W, ← hp, h1, h2, h3, h4, h5, h6]
    rfl
abbrev selfB : ByteArray := { data := #[115, 101, 108, 102] }
set_option maxRecDepth 100000 in
set_option maxHeartbeats 3200000 in
theorem alive_c (W : World) (hE : Er W) (hS : Sg W) (hL : Lv W) (hB : Bu W) : Calls Tryz.prog 9 #[] W fun x w' => x = .returned (.bool true) ∧ Gr (fun _ => False) W w' := by
  have hi : Hid (∀ w s e, Gr (fun _ => False) W w → (txV s e = true ∧ ∀ T, textV s = .ok T → Szs [T]) → Calls Tryz.prog 24 #[.string s, .int .i64 e] w fun x w' => x = .returned (.bool true) ∧ Gr (fun _ => False) w w') := fun w s e gw h => by
    have h1 := istx_c w s e (hE.gr gw (fun e => e)) (hS.gr gw (fun e => e)) (hL.gr gw (fun e => e) (fun e => e)) (Bu.gr hB gw (fun e => e)) h.2
    rw [h.1] at h1
    exact h1
  have hb : Hid (∀ w, Gr (fun _ => False) W w → Calls Tryz.prog 15 #[.string selfB, .int .i64 0] w fun x w' => x = .returned (.int .i64 1) ∧ Gr (fun _ => False) w w') := fun w gw => by
    have h1 := builtin_c w selfB 0 (Bu.gr hB gw (fun e => e))
    rw [show biV selfB 0 = 1 from by decide +kernel] at h1
    exact h1
  have ha : Hid (∀ w, Gr (fun _ => False) W w → Calls Tryz.prog 17 #[.int .i64 6] w fun x w' => x = .returned (.int .i64 3) ∧ Gr (fun _ => False) w w') := fun w gw => by
    have h1 := arity_c w 6 (Bu.gr hB gw (fun e => e))
    rw [show arV 6 = 3 from by decide +kernel] at h1
    exact h1
  clear hE hS hL hB
  go_enter Tryz.func9, Tryz.ntmps9
  go_wp2_with fail
  refine (hi.out _ tx1 174 (Gr.refl _ _) (txV_of rd1 ck1.1 ck1.2)).mono ?_
  rintro x w1 ⟨rfl, g1⟩
  go_wp2_with fail
  refine (hi.out _ tx2 0 g1 (txV_of rd2 ck2.1 ck2.2)).mono ?_
  rintro x w2 ⟨rfl, g2⟩
  replace g2 := g1.trans g2
  go_wp2_with fail
  refine (hi.out _ tx3 174 g2 (txV_of rd3 ck3.1 ck3.2)).mono ?_
  rintro x w3 ⟨rfl, g3⟩
  replace g3 := g2.trans g3
  go_wp2_with fail
  refine (hi.out _ tx4 175 g3 (txV_of rd4 ck4.1 ck4.2)).mono ?_
  rintro x w4 ⟨rfl, g4⟩
  replace g4 := g3.trans g4
  go_wp2_with fail
  refine (hi.out _ tx5 173 g4 (txV_of rd5 ck5.1 ck5.2)).mono ?_
  rintro x w5 ⟨rfl, g5⟩
  replace g5 := g4.trans g5
  go_wp2_with fail
  refine (hb.out _ g5).mono ?_
  rintro x w6 ⟨rfl, g6⟩
  replace g6 := g5.trans g6
  go_wp2_with fail
  refine (ha.out _ g6).mono ?_
  rintro x w7 ⟨rfl, g7⟩
  replace g7 := g6.trans g7
  go_wp2_with fail
  go_ret
  exact ⟨rfl, g7⟩
end Go.Proofs.YtjedbfbolifjjaaGreatDoor

namespace Go.Proofs.YtjedbfbolifjjaaGreatDoor
open Go.RowKit Go.Maps
variable {W W' : World}
theorem fdB_ar (s : ByteArray) (n : Int) : ∀ (f k : Nat), f + k = 26 → fdB s n f k ≠ 0 → arV (fdB s n f k : Int) = n
  | 0, k, _, h => absurd rfl h
  | f + 1, k, e, h => by
    unfold fdB at h ⊢
    by_cases hm : mtB s n k = true
    · rw [if_pos hm]
      unfold mtB at hm
      simp only [Bool.and_eq_true, beq_iff_eq] at hm
      unfold arV
      rw [if_pos ⟨by omega, by omega⟩, show (((k + 1 : Nat) : Int) - 1).toNat = k by omega]
      exact hm.2
    · rw [if_neg hm] at h ⊢
      exact fdB_ar s n f (k + 1) (by omega) h
theorem biV_ar (s : ByteArray) (n : Int) (h : biV s n ≠ 0) : arV (biV s n : Int) = n := fdB_ar s n 26 0 rfl h
set_option maxRecDepth 100000 in
set_option maxHeartbeats 3200000 in
theorem tables_c (W : World) (s : ByteArray) (n : Int) (hE : Er W) (hS : Sg W) (hL : Lv W) (hB : Bu W) : Calls Tryz.prog 5 #[.string s, .int .i64 n] W fun x w' => x = .returned (.bool true) ∧ Gr (fun _ => False) W w' := by
  have hal := Lib.hid (alive_c W hE hS hL hB)
  have hb := Lib.hid (fun w (gw : Gr (fun _ => False) W w) => builtin_c w s n (Bu.gr hB gw (fun e => e)))
  have hrb := Lib.hid (fun w => rbuiltin_c w s n)
  have ha := Lib.hid (fun w m (gw : Gr (fun _ => False) W w) => arity_c w m (Bu.gr hB gw (fun e => e)))
  have hra := Lib.hid (fun w => rarity_c w n)
  have han : Hid (biV s n ≠ 0 → arV (biV s n : Int) = n) := biV_ar s n
  generalize biV s n = q at *
  obtain ⟨a, haa⟩ : ∃ a, arV n = a := ⟨_, rfl⟩
  rw [haa] at hra
  clear hE hS hL hB
  cases hq : ((q : Int) == 0) with
  | true =>
    have ha1 : Hid (∀ w, Gr (fun _ => False) W w → Calls Tryz.prog 17 #[.int .i64 n] w fun e w' => e = .returned (.int .i64 a) ∧ Gr (fun _ => False) w w') := fun w gw => by rw [← haa]; exact ha.out w n gw
    clear haa
    go_enter Tryz.func5, Tryz.ntmps5
    go_wp2_with fail
    refine hal.out.mono ?_
    rintro x w1 ⟨rfl, g1⟩
    go_wp2_with fail
    refine (hb.out _ g1).mono ?_
    rintro x w2 ⟨rfl, g2⟩
    replace g2 := g1.trans g2
    go_wp2_with fail
    refine (hrb.out _).mono ?_
    rintro x w3 ⟨rfl, g3⟩
    replace g3 := g2.trans g3
    go_wp2_with fail
    refine (ha1.out _ g3).mono ?_
    rintro x w4 ⟨rfl, g4⟩
    replace g4 := g3.trans g4
    go_wp2_with fail
    refine (hra.out _).mono ?_
    rintro x w5 ⟨rfl, g5⟩
    replace g5 := g4.trans g5
    go_wp2_with fail
    go_ret
    exact ⟨rfl, g5⟩
  | false =>
    have hq0 : q ≠ 0 := fun e => by subst e; simp at hq
    have ha2 : Hid (∀ w, Gr (fun _ => False) W w → Calls Tryz.prog 17 #[.int .i64 (q : Int)] w fun e w' => e = .returned (.int .i64 n) ∧ Gr (fun _ => False) w w') := fun w gw => by
      have := ha.out w (q : Int) gw
      rw [han.out hq0] at this
      exact this
    have ha1 : Hid (∀ w, Gr (fun _ => False) W w → Calls Tryz.prog 17 #[.int .i64 n] w fun e w' => e = .returned (.int .i64 a) ∧ Gr (fun _ => False) w w') := fun w gw => by rw [← haa]; exact ha.out w n gw
    clear haa hq0
    go_enter Tryz.func5, Tryz.ntmps5
    go_wp2_with fail
    refine hal.out.mono ?_
    rintro x w1 ⟨rfl, g1⟩
    go_wp2_with fail
    refine (hb.out _ g1).mono ?_
    rintro x w2 ⟨rfl, g2⟩
    replace g2 := g1.trans g2
    go_wp2_with fail
    refine (hrb.out _).mono ?_
    rintro x w3 ⟨rfl, g3⟩
    replace g3 := g2.trans g3
    go_wp2_with fail
    refine (ha1.out _ g3).mono ?_
    rintro x w4 ⟨rfl, g4⟩
    replace g4 := g3.trans g4
    go_wp2_with fail
    refine (hra.out _).mono ?_
    rintro x w5 ⟨rfl, g5⟩
    replace g5 := g4.trans g5
    go_wp2_with fail
    refine (ha2.out _ g5).mono ?_
    rintro x w6 ⟨rfl, g6⟩
    replace g6 := g5.trans g6
    go_wp2_with fail
    go_ret
    exact ⟨rfl, g6⟩
end Go.Proofs.YtjedbfbolifjjaaGreatDoor
