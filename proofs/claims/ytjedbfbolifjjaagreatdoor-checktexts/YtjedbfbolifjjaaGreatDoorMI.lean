/-
  Has a text this error; the chapter's examples.
  The texts and rows of a parsed tree are small (pure).
  The reference's names of atoms and of variables.
-/
import Derived.Test.YtjedbfbolifjjaaGreatDoorMF
import Derived.Test.YtjedbfbolifjjaaGreatDoorKD
set_option linter.unusedVariables false
set_option linter.unusedSimpArgs false
namespace Go.Proofs.YtjedbfbolifjjaaGreatDoor
open Go.RowKit Go.Maps
variable {W W' : World}
def txV (s : ByteArray) (e : Int) : Bool := match textV s with
 | .ok T => chkV T == e
 | .error _ => false
set_option maxRecDepth 100000 in
set_option maxHeartbeats 1600000 in
theorem istx_c (W : World) (s : ByteArray) (e : Int) (hE : Er W) (hS : Sg W) (hL : Lv W) (hB : Bu W) (hz : ∀ T, textV s = .ok T → Szs [T]) : Calls Tryz.prog 24 #[.string s, .int .i64 e] W fun x w' => x = .returned (.bool (txV s e)) ∧ Gr (fun _ => False) W w' := by
 have ht := tree_c W s hE hS hL
 unfold txV
 cases hv : textV s with
 | error p =>
  rw [hv] at ht
  replace ht := Lib.hid ht
  clear hE hS hL hB hz hv
  go_enter Tryz.func24, Tryz.ntmps24
  go_wp2_with fail
  refine ht.out.mono ?_
  rintro x w1 ⟨rfl, g1⟩
  have gA := Gr.alloc w1 (.cells zc 25) (fun _ => False)
  go_wp2_with fail
  go_ret
  exact ⟨rfl, g1.trans gA⟩
 | ok T =>
  rw [hv] at ht
  have hs := hz T hv
  show Calls Tryz.prog 24 #[.string s, .int .i64 e] W fun x w' => x = .returned (.bool (chkV T == e)) ∧ Gr (fun _ => False) W w'
  generalize hcv : chkV T = c
  replace hcv := Lib.hid hcv
  replace ht := Lib.hid ht
  replace hB := Lib.hid hB
  clear hE hS hL hz hv
  go_enter Tryz.func24, Tryz.ntmps24
  go_wp2_with fail
  refine ht.out.mono ?_
  rintro x w1 ⟨v, rfl, rep, g1⟩
  obtain ⟨tk, tt, tn, a1, n1, c1, a2, n2, c2, rfl⟩ := rep.agg
  have gA := Gr.alloc w1 (.cells #[.int .i64 tk, .string tt, .int .i64 tn, .slice a1 n1 c1, .slice a2 n2 c2] 25) (fun _ => False)
  obtain ⟨⟨k0, k1, k2, k3, k4⟩, _⟩ := five_cells (heap_alloc_new w1 (.cells #[.int .i64 tk, .string tt, .int .i64 tn, .slice a1 n1 c1, .slice a2 n2 c2] 25))
  have hc := check_c (w1.alloc (.cells #[.int .i64 tk, .string tt, .int .i64 tn, .slice a1 n1 c1, .slice a2 n2 c2] 25)) T _ ((rep.gr gA (fun k hk e => e)).gen.turn (fun z hz' hl => ⟨hl, rfl⟩)) hs (Bu.gr hB.out (g1.trans gA) (fun e => e))
  rw [hcv.out] at hc
  replace hc := Lib.hid hc
  clear rep
  go_wp2_with fail
  refine hc.out.mono ?_
  rintro x w2 ⟨rfl, g2⟩
  go_wp2_with fail
  go_ret
  exact ⟨rfl, (g1.trans gA).trans g2⟩
theorem txV_of {s : ByteArray} {e : Int} {T : Tr} (h : textV s = .ok T) (hz : Szs [T]) (hc : chkV T = e) : txV s e = true ∧ ∀ T, textV s = .ok T → Szs [T] := by
 unfold txV
 rw [h]
 refine ⟨by simpa using hc, fun T' e' => ?_⟩
 cases e'
 exact hz
abbrev xB : ByteArray := ⟨#[88]⟩
abbrev yB : ByteArray := ⟨#[89]⟩
abbrev fB : ByteArray := ⟨#[102]⟩
abbrev plB : ByteArray := ⟨#[43]⟩
abbrev tX : Tr := .mk 3 xB 0 [] []
abbrev tY : Tr := .mk 3 yB 0 [] []
abbrev tI (n : Int) : Tr := .mk 1 e0 n [] []
abbrev tE (l : List Tr) : Tr := .mk 9 e0 0 [] l
abbrev tB (l : List Tr) : Tr := .mk 16 e0 0 [] l
abbrev mainT (l : List Tr) : Tr := .mk 18 e0 0 [] [.mk 17 mainB 0 [] [tB l]]
def chkW (b1 b2 b3 b4 b5 b6 b7 b8 b9 : Bool) : Int :=
 if b1 = true then 170 else if b2 = true then 177 else if b3 = true then 170 else if b4 = true then 171 else if b5 = true then 172 else if b6 = true then 173 else if b7 = true then 174 else if b8 = true then 175 else if b9 = true then 176 else 0
theorem chkV_W (k : Int) (s : ByteArray) (n : Int) (b : List Int) (l : List Tr) : chkV (.mk k s n b l) = chkW (crowdV (.mk k s n b l)) ((k != 18) || (preL [Tr.mk k s n b l]).any misV) ((preL [Tr.mk k s n b l]).any overV) (decide (((hdsL [] l).length : Int) < (l.length : Int)) || (preL [Tr.mk k s n b l]).any ptV) ((preL [Tr.mk k s n b l]).any nbV) ((preL [Tr.mk k s n b l]).any pwV) ((preL [Tr.mk k s n b l]).any unbV) ((preL [Tr.mk k s n b l]).any (uncV (hdsL [] l))) (!inH (hdsL [] l) (mainB, 0)) := rfl
abbrev tx1 : ByteArray := { data := #[109, 97, 105, 110, 40, 41, 32, 45, 62, 32, 88, 46] }
abbrev TT1 : Tr := mainT [tX]
set_option maxRecDepth 100000 in
theorem rd1 : textV tx1 = .ok TT1 := by kernel_rfl
set_option maxRecDepth 100000 in
theorem ck1 : Szs [TT1] ∧ chkV TT1 = 174 := by
 obtain ⟨L, hp⟩ : ∃ L, L = preL [TT1] := ⟨_, rfl⟩
 have hp' := hp
 simp only [preL_cons, preL_nil, List.append_nil, List.nil_append, List.cons_append] at hp'
 have h1 : crowdV TT1 = false := by unfold crowdV; rw [← hp, hp']; rfl
 have h2 : L.any misV = false := by rw [hp']; decide +kernel
 have h3 : L.any overV = false := by rw [hp']; simp [overV, slotV, slL, preL_cons, preL_nil, goA, pst, putL, newN, inL]
 have h4 : (decide (((hdsL [] TT1.l).length : Int) < (TT1.l.length : Int)) || L.any ptV) = false := by rw [hp']; decide +kernel
 have h5 : L.any nbV = false := by rw [hp']; decide +kernel
 have h6 : L.any pwV = false := by rw [hp']; simp [pwV, patV_mk, isK, patL_all]
 have h7 : L.any unbV = true := by rw [hp']; simp [unbV, lk, putsT, putT, goA, pst, putL, newN, inL, aftV, preL_cons, preL_nil]
 refine ⟨fun U hU => ?_, ?_⟩
 · rw [← hp, hp'] at hU
   simp only [List.mem_cons, List.not_mem_nil, or_false] at hU
   rcases hU with rfl | rfl | rfl | rfl <;> exact ⟨by decide, by decide⟩
 · rw [chkV_W, ← hp, h1, h2, h3, h4, h5, h6, h7]
   rfl
abbrev tx2 : ByteArray := { data := #[109, 97, 105, 110, 40, 41, 32, 45, 62, 32, 88, 32, 61, 32, 49, 44, 32, 88, 32, 61, 32, 50, 46] }
abbrev TT2 : Tr := mainT [tE [tX, tI 1], tE [tX, tI 2]]
set_option maxRecDepth 100000 in
theorem rd2 : textV tx2 = .ok TT2 := by kernel_rfl
set_option maxRecDepth 100000 in
theorem ck2 : Szs [TT2] ∧ chkV TT2 = 0 := by
 obtain ⟨L, hp⟩ : ∃ L, L = preL [TT2] := ⟨_, rfl⟩
 have hp' := hp
 simp only [preL_cons, preL_nil, List.append_nil, List.nil_append, List.cons_append] at hp'
 have h1 : crowdV TT2 = false := by unfold crowdV; rw [← hp, hp']; rfl
 have h2 : L.any misV = false := by rw [hp']; decide +kernel
 have h3 : L.any overV = false := by rw [hp']; simp [overV, slotV, slL, preL_cons, preL_nil, goA, pst, putL, newN, inL]
 have h4 : (decide (((hdsL [] TT2.l).length : Int) < (TT2.l.length : Int)) || L.any ptV) = false := by rw [hp']; decide +kernel
 have h5 : L.any nbV = false := by rw [hp']; decide +kernel
 have h6 : L.any pwV = false := by rw [hp']; simp [pwV, patV_mk, isK, patL_all]
 have h7 : L.any unbV = false := by rw [hp']; simp [unbV, lk, putsT, putT, goA, pst, putL, newN, inL, aftV, preL_cons, preL_nil]
 have h8 : L.any (uncV (hdsL [] TT2.l)) = false := by rw [hp']; decide +kernel
 have h9 : (!inH (hdsL [] TT2.l) (mainB, 0)) = false := by decide +kernel
 refine ⟨fun U hU => ?_, ?_⟩
 · rw [← hp, hp'] at hU
   simp only [List.mem_cons, List.not_mem_nil, or_false] at hU
   rcases hU with rfl | rfl | rfl | rfl | rfl | rfl | rfl | rfl | rfl <;> exact ⟨by decide, by decide⟩
 · rw [chkV_W, ← hp, h1, h2, h3, h4, h5, h6, h7, h8, h9]
   rfl
abbrev tx3 : ByteArray := { data := #[109, 97, 105, 110, 40, 41, 32, 45, 62, 32, 99, 97, 115, 101, 32, 49, 32, 111, 102, 32, 89, 32, 45, 62, 32, 89, 32, 101, 110, 100, 44, 32, 89, 46] }
abbrev TT3 : Tr := mainT [.mk 12 e0 0 [] [tI 1, .mk 15 e0 0 [] [tY, tB [tY]]], tY]
set_option maxRecDepth 100000 in
theorem rd3 : textV tx3 = .ok TT3 := by kernel_rfl
set_option maxRecDepth 100000 in
theorem ck3 : Szs [TT3] ∧ chkV TT3 = 174 := by
 obtain ⟨L, hp⟩ : ∃ L, L = preL [TT3] := ⟨_, rfl⟩
 have hp' := hp
 simp only [preL_cons, preL_nil, List.append_nil, List.nil_append, List.cons_append] at hp'
 have h1 : crowdV TT3 = false := by unfold crowdV; rw [← hp, hp']; rfl
 have h2 : L.any misV = false := by rw [hp']; decide +kernel
 have h3 : L.any overV = false := by rw [hp']; simp [overV, slotV, slL, preL_cons, preL_nil, goA, pst, putL, newN, inL]
 have h4 : (decide (((hdsL [] TT3.l).length : Int) < (TT3.l.length : Int)) || L.any ptV) = false := by rw [hp']; decide +kernel
 have h5 : L.any nbV = false := by rw [hp']; decide +kernel
 have h6 : L.any pwV = false := by rw [hp']; simp [pwV, patV_mk, isK, patL_all]
 have h7 : L.any unbV = true := by rw [hp']; simp [unbV, lk, putsT, putT, goA, pst, putL, newN, inL, aftV, preL_cons, preL_nil]
 refine ⟨fun U hU => ?_, ?_⟩
 · rw [← hp, hp'] at hU
   simp only [List.mem_cons, List.not_mem_nil, or_false] at hU
   rcases hU with rfl | rfl | rfl | rfl | rfl | rfl | rfl | rfl | rfl | rfl <;> exact ⟨by decide, by decide⟩
 · rw [chkV_W, ← hp, h1, h2, h3, h4, h5, h6, h7]
   rfl
abbrev tx4 : ByteArray := { data := #[109, 97, 105, 110, 40, 41, 32, 45, 62, 32, 102, 40, 41, 46] }
abbrev TT4 : Tr := mainT [.mk 11 fB 0 [] []]
set_option maxRecDepth 100000 in
theorem rd4 : textV tx4 = .ok TT4 := by kernel_rfl
set_option maxRecDepth 100000 in
theorem ck4 : Szs [TT4] ∧ chkV TT4 = 175 := by
 obtain ⟨L, hp⟩ : ∃ L, L = preL [TT4] := ⟨_, rfl⟩
 have hp' := hp
 simp only [preL_cons, preL_nil, List.append_nil, List.nil_append, List.cons_append] at hp'
 have h1 : crowdV TT4 = false := by unfold crowdV; rw [← hp, hp']; rfl
 have h2 : L.any misV = false := by rw [hp']; decide +kernel
 have h3 : L.any overV = false := by rw [hp']; simp [overV, slotV, slL, preL_cons, preL_nil, goA, pst, putL, newN, inL]
 have h4 : (decide (((hdsL [] TT4.l).length : Int) < (TT4.l.length : Int)) || L.any ptV) = false := by rw [hp']; decide +kernel
 have h5 : L.any nbV = false := by rw [hp']; decide +kernel
 have h6 : L.any pwV = false := by rw [hp']; simp [pwV, patV_mk, isK, patL_all]
 have h7 : L.any unbV = false := by rw [hp']; simp [unbV, lk, putsT, putT, goA, pst, putL, newN, inL, aftV, preL_cons, preL_nil]
 have h8 : L.any (uncV (hdsL [] TT4.l)) = true := by rw [hp']; decide +kernel
 have h9 : (!inH (hdsL [] TT4.l) (mainB, 0)) = false := by decide +kernel
 refine ⟨fun U hU => ?_, ?_⟩
 · rw [← hp, hp'] at hU
   simp only [List.mem_cons, List.not_mem_nil, or_false] at hU
   rcases hU with rfl | rfl | rfl | rfl <;> exact ⟨by decide, by decide⟩
 · rw [chkV_W, ← hp, h1, h2, h3, h4, h5, h6, h7, h8, h9]
   rfl
abbrev tx5 : ByteArray := { data := #[109, 97, 105, 110, 40, 41, 32, 45, 62, 32, 49, 32, 43, 32, 50, 32, 61, 32, 51, 46] }
abbrev TT5 : Tr := mainT [tE [.mk 8 plB 0 [] [tI 1, tI 2], tI 3]]
set_option maxRecDepth 100000 in
theorem rd5 : textV tx5 = .ok TT5 := by kernel_rfl
set_option maxRecDepth 100000 in
theorem ck5 : Szs [TT5] ∧ chkV TT5 = 173 := by
 obtain ⟨L, hp⟩ : ∃ L, L = preL [TT5] := ⟨_, rfl⟩
 have hp' := hp
 simp only [preL_cons, preL_nil, List.append_nil, List.nil_append, List.cons_append] at hp'
 have h1 : crowdV TT5 = false := by unfold crowdV; rw [← hp, hp']; rfl
 have h2 : L.any misV = false := by rw [hp']; decide +kernel
 have h3 : L.any overV = false := by rw [hp']; simp [overV, slotV, slL, preL_cons, preL_nil, goA, pst, putL, newN, inL]
 have h4 : (decide (((hdsL [] TT5.l).length : Int) < (TT5.l.length : Int)) || L.any ptV) = false := by rw [hp']; decide +kernel
 have h5 : L.any nbV = false := by rw [hp']; decide +kernel
 have h6 : L.any pwV = true := by rw [hp']; simp [pwV, patV_mk, isK, patL_all]
 refine ⟨fun U hU => ?_, ?_⟩
 · rw [← hp, hp'] at hU
   simp only [List.mem_cons, List.not_mem_nil, or_false] at hU
   rcases hU with rfl | rfl | rfl | rfl | rfl | rfl | rfl | rfl <;> exact ⟨by decide, by decide⟩
 · rw [chkV_W, ← hp, h1, h2, h3, h4, h5, h6]
   rfl
abbrev selfB : ByteArray := { data := #[115, 101, 108, 102] }
set_option maxRecDepth 100000 in
set_option maxHeartbeats 3200000 in
theorem alive_c (W : World) (hE : Er W) (hS : Sg W) (hL : Lv W) (hB : Bu W) : Calls Tryz.prog 9 #[] W fun x w' => x = .returned (.bool true) ∧ Gr (fun _ => False) W w' := by
 have hi : Hid (∀ w s e, Gr (fun _ => False) W w → (txV s e = true ∧ ∀ T, textV s = .ok T → Szs [T]) → Calls Tryz.prog 24 #[.string s, .int .i64 e] w fun x w' => x = .returned (.bool true) ∧ Gr (fun _ => False) w w') := fun w s e gw h => by
  have h1 := istx_c w s e (hE.gr gw (fun e => e)) (hS.gr gw (fun e => e)) (hL.gr gw (fun e => e) (fun e => e)) (Bu.gr hB gw (fun e => e)) h.2
  rw [h.1] at h1
  exact h1
 have hb : Hid (∀ w, Gr (fun _ => False) W w → Calls Tryz.prog 15 #[.string selfB, .int .i64 0] w fun x w' => x = .returned (.int .i64 1) ∧ Gr (fun _ => False) w w') := fun w gw => by
  have h1 := builtin_c w selfB 0 (Bu.gr hB gw (fun e => e))
  rw [show biV selfB 0 = 1 from by decide +kernel] at h1
  exact h1
 have ha : Hid (∀ w, Gr (fun _ => False) W w → Calls Tryz.prog 17 #[.int .i64 6] w fun x w' => x = .returned (.int .i64 3) ∧ Gr (fun _ => False) w w') := fun w gw => by
  have h1 := arity_c w 6 (Bu.gr hB gw (fun e => e))
  rw [show arV 6 = 3 from by decide +kernel] at h1
  exact h1
 clear hE hS hL hB
 go_enter Tryz.func9, Tryz.ntmps9
 go_wp2_with fail
 refine (hi.out _ tx1 174 (Gr.refl _ _) (txV_of rd1 ck1.1 ck1.2)).mono ?_
 rintro x w1 ⟨rfl, g1⟩
 go_wp2_with fail
 refine (hi.out _ tx2 0 g1 (txV_of rd2 ck2.1 ck2.2)).mono ?_
 rintro x w2 ⟨rfl, g2⟩
 replace g2 := g1.trans g2
 go_wp2_with fail
 refine (hi.out _ tx3 174 g2 (txV_of rd3 ck3.1 ck3.2)).mono ?_
 rintro x w3 ⟨rfl, g3⟩
 replace g3 := g2.trans g3
 go_wp2_with fail
 refine (hi.out _ tx4 175 g3 (txV_of rd4 ck4.1 ck4.2)).mono ?_
 rintro x w4 ⟨rfl, g4⟩
 replace g4 := g3.trans g4
 go_wp2_with fail
 refine (hi.out _ tx5 173 g4 (txV_of rd5 ck5.1 ck5.2)).mono ?_
 rintro x w5 ⟨rfl, g5⟩
 replace g5 := g4.trans g5
 go_wp2_with fail
 refine (hb.out _ g5).mono ?_
 rintro x w6 ⟨rfl, g6⟩
 replace g6 := g5.trans g6
 go_wp2_with fail
 refine (ha.out _ g6).mono ?_
 rintro x w7 ⟨rfl, g7⟩
 replace g7 := g6.trans g7
 go_wp2_with fail
 go_ret
 exact ⟨rfl, g7⟩
end Go.Proofs.YtjedbfbolifjjaaGreatDoor

namespace Go.Proofs.YtjedbfbolifjjaaGreatDoor
section
variable {ts : List Tn} {B N : Nat}
variable (hT : ∀ t ∈ ts, t.s.size ≤ B) (hN : 2 * ts.length + 9 ≤ N)
end
end Go.Proofs.YtjedbfbolifjjaaGreatDoor

namespace Go.Proofs.YtjedbfbolifjjaaGreatDoor
open Go.RowKit Go.Maps
variable {W W' : World}
set_option maxRecDepth 20000 in
set_option maxHeartbeats 3200000 in
theorem rname_c (s : ByteArray) (W : World) : Calls Tryz.prog 75 #[.string s] W fun e w' => e = .returned (.bool (isName s)) ∧ w' = W := by
 by_cases h1 : 1 ≤ s.size
 case neg =>
  have hn : isName s = false := by simp [isName, h1]
  have q1 : ((s.size : Int) == 0) = true := by rw [beq_iff_eq]; omega
  rw [hn]
  go_enter Tryz.func75, Tryz.ntmps75
  go_wp2_with fail
  go_ret
  exact ⟨rfl, rfl⟩
 have q1 : ((s.size : Int) == 0) = false := by rw [beq_eq_false_iff_ne]; omega
 by_cases h2 : s.size ≤ 32
 case neg =>
  have hn : isName s = false := by simp [isName, h2]
  have q2 : decide ((32 : Int) < (s.size : Int)) = true := by simp; omega
  rw [hn]
  go_enter Tryz.func75, Tryz.ntmps75
  go_wp2_with fail
  go_ret
  exact ⟨rfl, rfl⟩
 have q2 : decide ((32 : Int) < (s.size : Int)) = false := by simp; omega
 have hbad : Hid (∀ k, k < s.size → (¬ (97 ≤ bt s k ∧ bt s k ≤ 122) ∧ (k = 0 ∨ (¬ (65 ≤ bt s k ∧ bt s k ≤ 90) ∧ ¬ (48 ≤ bt s k ∧ bt s k ≤ 57) ∧ bt s k ≠ 95))) → isName s = false) := fun k hk h => by
  rcases h with ⟨h3, rfl | ⟨h4, h5, h6⟩⟩
  · have : low (bt s 0) = false := by unfold low; simp; omega
    simp [isName, this]
  · have : inNa (bt s k) = false := by unfold inNa oth low; simp; omega
    simp [isName, allN_false s k s.size hk this]
 have hok : Hid (∀ k, allN s k = true → (0 < k → low (bt s 0) = true) → ¬ (¬ (97 ≤ bt s k ∧ bt s k ≤ 122) ∧ (k = 0 ∨ (¬ (65 ≤ bt s k ∧ bt s k ≤ 90) ∧ ¬ (48 ≤ bt s k ∧ bt s k ≤ 57) ∧ bt s k ≠ 95))) → allN s (k + 1) = true ∧ low (bt s 0) = true) := fun k ha hl h => by
  have hin : inNa (bt s k) = true := by
   unfold inNa oth low
   simp only [Bool.or_eq_true, Bool.and_eq_true, decide_eq_true_eq, beq_iff_eq]
   omega
  refine ⟨by rw [allN_succ, ha, hin]; rfl, ?_⟩
  rcases Nat.eq_zero_or_pos k with rfl | hk
  · unfold low
    simp only [Bool.and_eq_true, decide_eq_true_eq]
    omega
  · exact hl hk
 have hrd := Lib.hid (ixa s)
 have hsI : (s.size : Int) ≤ 32 := by omega
 go_enter Tryz.func75, Tryz.ntmps75
 go_wp2_with fail
 go_loopw [3] (fun u wr => ∃ k : Nat, k ≤ s.size ∧ u = .int .i64 (k : Int) ∧ Hid (allN s k = true ∧ (0 < k → low (bt s 0) = true)) ∧ wr = W) (fun u _ => s.size - (intOf u).toNat)
 case atStart => exact ⟨0, Nat.zero_le _, rfl, ⟨rfl, fun h => absurd h (by omega)⟩, rfl⟩
 case round =>
  obtain ⟨k, hk, rfl, hI, rfl⟩ := hrel
  by_cases hlt : k < s.size
  ·
   have hdd : decide ((k : Int) < (s.size : Int)) = true := by simp; omega
   have hix := hrd.out k hlt
   have hbad' := hbad.out k hlt
   have hok' := hok.out k hI.out.1 hI.out.2
   have b1 := bt_nonneg s k
   generalize bt s k = c at hix hbad' hok' b1
   replace hbad' := Lib.hid hbad'
   replace hok' := Lib.hid hok'
   have hkk := Lib.hid hk
   have cls : (97 ≤ c ∧ c ≤ 122) ∨ (65 ≤ c ∧ c ≤ 90) ∨ (48 ≤ c ∧ c ≤ 57) ∨ (c = 95) ∨ (c < 48) ∨ (57 < c ∧ c < 65) ∨ ((90 < c ∧ c < 97 ∧ c ≠ 95)) ∨ (122 < c) := by omega
   rcases Nat.eq_zero_or_pos k with rfl | hpos
   ·
    have hix0 : ∀ w, (Instr.index 9 (.string s) (.int .i64 0)).run Tryz.prog w = .ok (.int .u8 c) w := hix
    clear hix hdd
    have hd0 : decide ((0 : Int) < (s.size : Int)) = true := by simp; omega
    rcases cls with cl | cl | cl | cl | cl | cl | cl | cl
    ·
     have cl' := cl
     have z0 : decide (97 ≤ c) = true := by simp; omega
     have z1 : decide (c ≤ 122) = true := by simp; omega
     have z2 : decide (65 ≤ c) = true := by simp; omega
     have z3 : decide (c ≤ 90) = false := by simp; omega
     have z4 : decide (48 ≤ c) = true := by simp; omega
     have z5 : decide (c ≤ 57) = false := by simp; omega
     have z6 : (c == 95) = false := by rw [beq_eq_false_iff_ne]; omega
     have hc := Lib.hid (hok'.out (fun h => by omega))
     clear cl cl'
     go_wp2_with fail
     exact ⟨⟨1, hlt, by go_num, ⟨hc.out.1, fun _ => hc.out.2⟩, by first | trivial | rfl⟩, by simp [intOf]; omega⟩
    ·
     have cl' := cl
     have z0 : decide (97 ≤ c) = false := by simp; omega
     have z1 : decide (c ≤ 122) = true := by simp; omega
     have z2 : decide (65 ≤ c) = true := by simp; omega
     have z3 : decide (c ≤ 90) = true := by simp; omega
     have z4 : decide (48 ≤ c) = true := by simp; omega
     have z5 : decide (c ≤ 57) = false := by simp; omega
     have z6 : (c == 95) = false := by rw [beq_eq_false_iff_ne]; omega
     have hn := Lib.hid (hbad'.out (by omega))
     clear cl cl'
     go_wp2_with fail
     go_ret
     exact ⟨by rw [hn.out]; rfl, rfl⟩
    ·
     have cl' := cl
     have z0 : decide (97 ≤ c) = false := by simp; omega
     have z1 : decide (c ≤ 122) = true := by simp; omega
     have z2 : decide (65 ≤ c) = false := by simp; omega
     have z3 : decide (c ≤ 90) = true := by simp; omega
     have z4 : decide (48 ≤ c) = true := by simp; omega
     have z5 : decide (c ≤ 57) = true := by simp; omega
     have z6 : (c == 95) = false := by rw [beq_eq_false_iff_ne]; omega
     have hn := Lib.hid (hbad'.out (by omega))
     clear cl cl'
     go_wp2_with fail
     go_ret
     exact ⟨by rw [hn.out]; rfl, rfl⟩
    ·
     have cl' := cl
     have z0 : decide (97 ≤ c) = false := by simp; omega
     have z1 : decide (c ≤ 122) = true := by simp; omega
     have z2 : decide (65 ≤ c) = true := by simp; omega
     have z3 : decide (c ≤ 90) = false := by simp; omega
     have z4 : decide (48 ≤ c) = true := by simp; omega
     have z5 : decide (c ≤ 57) = false := by simp; omega
     have z6 : (c == 95) = true := by rw [beq_iff_eq]; omega
     have hn := Lib.hid (hbad'.out (by omega))
     clear cl cl'
     go_wp2_with fail
     go_ret
     exact ⟨by rw [hn.out]; rfl, rfl⟩
    ·
     have cl' := cl
     have z0 : decide (97 ≤ c) = false := by simp; omega
     have z1 : decide (c ≤ 122) = true := by simp; omega
     have z2 : decide (65 ≤ c) = false := by simp; omega
     have z3 : decide (c ≤ 90) = true := by simp; omega
     have z4 : decide (48 ≤ c) = false := by simp; omega
     have z5 : decide (c ≤ 57) = true := by simp; omega
     have z6 : (c == 95) = false := by rw [beq_eq_false_iff_ne]; omega
     have hn := Lib.hid (hbad'.out (by omega))
     clear cl cl'
     go_wp2_with fail
     go_ret
     exact ⟨by rw [hn.out]; rfl, rfl⟩
    ·
     have cl' := cl
     have z0 : decide (97 ≤ c) = false := by simp; omega
     have z1 : decide (c ≤ 122) = true := by simp; omega
     have z2 : decide (65 ≤ c) = false := by simp; omega
     have z3 : decide (c ≤ 90) = true := by simp; omega
     have z4 : decide (48 ≤ c) = true := by simp; omega
     have z5 : decide (c ≤ 57) = false := by simp; omega
     have z6 : (c == 95) = false := by rw [beq_eq_false_iff_ne]; omega
     have hn := Lib.hid (hbad'.out (by omega))
     clear cl cl'
     go_wp2_with fail
     go_ret
     exact ⟨by rw [hn.out]; rfl, rfl⟩
    ·
     have cl' := cl
     have z0 : decide (97 ≤ c) = false := by simp; omega
     have z1 : decide (c ≤ 122) = true := by simp; omega
     have z2 : decide (65 ≤ c) = true := by simp; omega
     have z3 : decide (c ≤ 90) = false := by simp; omega
     have z4 : decide (48 ≤ c) = true := by simp; omega
     have z5 : decide (c ≤ 57) = false := by simp; omega
     have z6 : (c == 95) = false := by rw [beq_eq_false_iff_ne]; omega
     have hn := Lib.hid (hbad'.out (by omega))
     clear cl cl'
     go_wp2_with fail
     go_ret
     exact ⟨by rw [hn.out]; rfl, rfl⟩
    ·
     have cl' := cl
     have z0 : decide (97 ≤ c) = true := by simp; omega
     have z1 : decide (c ≤ 122) = false := by simp; omega
     have z2 : decide (65 ≤ c) = true := by simp; omega
     have z3 : decide (c ≤ 90) = false := by simp; omega
     have z4 : decide (48 ≤ c) = true := by simp; omega
     have z5 : decide (c ≤ 57) = false := by simp; omega
     have z6 : (c == 95) = false := by rw [beq_eq_false_iff_ne]; omega
     have hn := Lib.hid (hbad'.out (by omega))
     clear cl cl'
     go_wp2_with fail
     go_ret
     exact ⟨by rw [hn.out]; rfl, rfl⟩
   ·
    have hk0 : ((k : Int) == 0) = false := by rw [beq_eq_false_iff_ne]; omega
    rcases cls with cl | cl | cl | cl | cl | cl | cl | cl
    ·
     have cl' := cl
     have z0 : decide (97 ≤ c) = true := by simp; omega
     have z1 : decide (c ≤ 122) = true := by simp; omega
     have z2 : decide (65 ≤ c) = true := by simp; omega
     have z3 : decide (c ≤ 90) = false := by simp; omega
     have z4 : decide (48 ≤ c) = true := by simp; omega
     have z5 : decide (c ≤ 57) = false := by simp; omega
     have z6 : (c == 95) = false := by rw [beq_eq_false_iff_ne]; omega
     have hc := Lib.hid (hok'.out (fun h => by omega))
     clear cl cl'
     go_wp2_with fail
     exact ⟨⟨k + 1, hlt, by go_num, ⟨hc.out.1, fun _ => hc.out.2⟩, by first | trivial | rfl⟩, by simp [intOf]; omega⟩
    ·
     have cl' := cl
     have z0 : decide (97 ≤ c) = false := by simp; omega
     have z1 : decide (c ≤ 122) = true := by simp; omega
     have z2 : decide (65 ≤ c) = true := by simp; omega
     have z3 : decide (c ≤ 90) = true := by simp; omega
     have z4 : decide (48 ≤ c) = true := by simp; omega
     have z5 : decide (c ≤ 57) = false := by simp; omega
     have z6 : (c == 95) = false := by rw [beq_eq_false_iff_ne]; omega
     have hc := Lib.hid (hok'.out (fun h => by omega))
     clear cl cl'
     go_wp2_with fail
     exact ⟨⟨k + 1, hlt, by go_num, ⟨hc.out.1, fun _ => hc.out.2⟩, by first | trivial | rfl⟩, by simp [intOf]; omega⟩
    ·
     have cl' := cl
     have z0 : decide (97 ≤ c) = false := by simp; omega
     have z1 : decide (c ≤ 122) = true := by simp; omega
     have z2 : decide (65 ≤ c) = false := by simp; omega
     have z3 : decide (c ≤ 90) = true := by simp; omega
     have z4 : decide (48 ≤ c) = true := by simp; omega
     have z5 : decide (c ≤ 57) = true := by simp; omega
     have z6 : (c == 95) = false := by rw [beq_eq_false_iff_ne]; omega
     have hc := Lib.hid (hok'.out (fun h => by omega))
     clear cl cl'
     go_wp2_with fail
     exact ⟨⟨k + 1, hlt, by go_num, ⟨hc.out.1, fun _ => hc.out.2⟩, by first | trivial | rfl⟩, by simp [intOf]; omega⟩
    ·
     have cl' := cl
     have z0 : decide (97 ≤ c) = false := by simp; omega
     have z1 : decide (c ≤ 122) = true := by simp; omega
     have z2 : decide (65 ≤ c) = true := by simp; omega
     have z3 : decide (c ≤ 90) = false := by simp; omega
     have z4 : decide (48 ≤ c) = true := by simp; omega
     have z5 : decide (c ≤ 57) = false := by simp; omega
     have z6 : (c == 95) = true := by rw [beq_iff_eq]; omega
     have hc := Lib.hid (hok'.out (fun h => by omega))
     clear cl cl'
     go_wp2_with fail
     exact ⟨⟨k + 1, hlt, by go_num, ⟨hc.out.1, fun _ => hc.out.2⟩, by first | trivial | rfl⟩, by simp [intOf]; omega⟩
    ·
     have cl' := cl
     have z0 : decide (97 ≤ c) = false := by simp; omega
     have z1 : decide (c ≤ 122) = true := by simp; omega
     have z2 : decide (65 ≤ c) = false := by simp; omega
     have z3 : decide (c ≤ 90) = true := by simp; omega
     have z4 : decide (48 ≤ c) = false := by simp; omega
     have z5 : decide (c ≤ 57) = true := by simp; omega
     have z6 : (c == 95) = false := by rw [beq_eq_false_iff_ne]; omega
     have hn := Lib.hid (hbad'.out (by omega))
     clear cl cl'
     go_wp2_with fail
     go_ret
     exact ⟨by rw [hn.out]; rfl, rfl⟩
    ·
     have cl' := cl
     have z0 : decide (97 ≤ c) = false := by simp; omega
     have z1 : decide (c ≤ 122) = true := by simp; omega
     have z2 : decide (65 ≤ c) = false := by simp; omega
     have z3 : decide (c ≤ 90) = true := by simp; omega
     have z4 : decide (48 ≤ c) = true := by simp; omega
     have z5 : decide (c ≤ 57) = false := by simp; omega
     have z6 : (c == 95) = false := by rw [beq_eq_false_iff_ne]; omega
     have hn := Lib.hid (hbad'.out (by omega))
     clear cl cl'
     go_wp2_with fail
     go_ret
     exact ⟨by rw [hn.out]; rfl, rfl⟩
    ·
     have cl' := cl
     have z0 : decide (97 ≤ c) = false := by simp; omega
     have z1 : decide (c ≤ 122) = true := by simp; omega
     have z2 : decide (65 ≤ c) = true := by simp; omega
     have z3 : decide (c ≤ 90) = false := by simp; omega
     have z4 : decide (48 ≤ c) = true := by simp; omega
     have z5 : decide (c ≤ 57) = false := by simp; omega
     have z6 : (c == 95) = false := by rw [beq_eq_false_iff_ne]; omega
     have hn := Lib.hid (hbad'.out (by omega))
     clear cl cl'
     go_wp2_with fail
     go_ret
     exact ⟨by rw [hn.out]; rfl, rfl⟩
    ·
     have cl' := cl
     have z0 : decide (97 ≤ c) = true := by simp; omega
     have z1 : decide (c ≤ 122) = false := by simp; omega
     have z2 : decide (65 ≤ c) = true := by simp; omega
     have z3 : decide (c ≤ 90) = false := by simp; omega
     have z4 : decide (48 ≤ c) = true := by simp; omega
     have z5 : decide (c ≤ 57) = false := by simp; omega
     have z6 : (c == 95) = false := by rw [beq_eq_false_iff_ne]; omega
     have hn := Lib.hid (hbad'.out (by omega))
     clear cl cl'
     go_wp2_with fail
     go_ret
     exact ⟨by rw [hn.out]; rfl, rfl⟩
  ·
   have hdd : decide ((k : Int) < (s.size : Int)) = false := by simp; omega
   have hke : k = s.size := by omega
   have hn : Hid (isName s = true) := by
    have h9 := hI.out
    rw [hke] at h9
    show _ = _
    simp [isName, h1, h2, h9.1, h9.2 (by omega)]
   clear hke
   go_wp2_with fail
   go_ret
   exact ⟨by rw [hn.out]; rfl, rfl⟩
set_option maxRecDepth 20000 in
set_option maxHeartbeats 3200000 in
theorem rvar_c (s : ByteArray) (W : World) : Calls Tryz.prog 59 #[.string s] W fun e w' => e = .returned (.bool (isVarN s)) ∧ w' = W := by
 by_cases h1 : 1 ≤ s.size
 case neg =>
  have hn : isVarN s = false := by simp [isVarN, h1]
  have q1 : ((s.size : Int) == 0) = true := by rw [beq_iff_eq]; omega
  rw [hn]
  go_enter Tryz.func59, Tryz.ntmps59
  go_wp2_with fail
  go_ret
  exact ⟨rfl, rfl⟩
 have q1 : ((s.size : Int) == 0) = false := by rw [beq_eq_false_iff_ne]; omega
 by_cases h2 : s.size ≤ 32
 case neg =>
  have hn : isVarN s = false := by simp [isVarN, h2]
  have q2 : decide ((32 : Int) < (s.size : Int)) = true := by simp; omega
  rw [hn]
  go_enter Tryz.func59, Tryz.ntmps59
  go_wp2_with fail
  go_ret
  exact ⟨rfl, rfl⟩
 have q2 : decide ((32 : Int) < (s.size : Int)) = false := by simp; omega
 by_cases h3 : (s.toList == [95]) = true
 case pos =>
  have hn : isVarN s = false := by simp [isVarN, h3]
  rw [hn]
  go_enter Tryz.func59, Tryz.ntmps59
  go_wp2_with fail
  go_ret
  exact ⟨rfl, rfl⟩
 replace h3 : (s.toList == [95]) = false := by simpa using h3
 have hbad : Hid (∀ k, k < s.size → (¬ (65 ≤ bt s k ∧ bt s k ≤ 90) ∧ bt s k ≠ 95 ∧ (k = 0 ∨ (¬ (97 ≤ bt s k ∧ bt s k ≤ 122) ∧ ¬ (48 ≤ bt s k ∧ bt s k ≤ 57)))) → isVarN s = false) := fun k hk h => by
  rcases h with ⟨h4, h5, rfl | ⟨h6, h7⟩⟩
  · have : vab (bt s 0) = false := by unfold vab; simp; omega
    simp [isVarN, this]
  · have : inNm (bt s k) = false := by unfold inNm vab low; simp; omega
    simp [isVarN, allM_false s k s.size hk this]
 have hok : Hid (∀ k, allM s k = true → (0 < k → vab (bt s 0) = true) → ¬ (¬ (65 ≤ bt s k ∧ bt s k ≤ 90) ∧ bt s k ≠ 95 ∧ (k = 0 ∨ (¬ (97 ≤ bt s k ∧ bt s k ≤ 122) ∧ ¬ (48 ≤ bt s k ∧ bt s k ≤ 57)))) → allM s (k + 1) = true ∧ vab (bt s 0) = true) := fun k ha hl h => by
  have hin : inNm (bt s k) = true := by
   unfold inNm vab low
   simp only [Bool.or_eq_true, Bool.and_eq_true, decide_eq_true_eq, beq_iff_eq]
   omega
  refine ⟨by rw [allM_succ, ha, hin]; rfl, ?_⟩
  rcases Nat.eq_zero_or_pos k with rfl | hk
  · unfold vab
    simp only [Bool.or_eq_true, Bool.and_eq_true, decide_eq_true_eq, beq_iff_eq]
    omega
  · exact hl hk
 have hrd := Lib.hid (ixa s)
 have hsI : (s.size : Int) ≤ 32 := by omega
 go_enter Tryz.func59, Tryz.ntmps59
 go_wp2_with fail
 go_loopw [3] (fun u wr => ∃ k : Nat, k ≤ s.size ∧ u = .int .i64 (k : Int) ∧ Hid (allM s k = true ∧ (0 < k → vab (bt s 0) = true)) ∧ wr = W) (fun u _ => s.size - (intOf u).toNat)
 case atStart => exact ⟨0, Nat.zero_le _, rfl, ⟨rfl, fun h => absurd h (by omega)⟩, rfl⟩
 case round =>
  obtain ⟨k, hk, rfl, hI, rfl⟩ := hrel
  by_cases hlt : k < s.size
  ·
   have hdd : decide ((k : Int) < (s.size : Int)) = true := by simp; omega
   have hix := hrd.out k hlt
   have hbad' := hbad.out k hlt
   have hok' := hok.out k hI.out.1 hI.out.2
   have b1 := bt_nonneg s k
   generalize bt s k = c at hix hbad' hok' b1
   replace hbad' := Lib.hid hbad'
   replace hok' := Lib.hid hok'
   have hkk := Lib.hid hk
   have cls : (97 ≤ c ∧ c ≤ 122) ∨ (65 ≤ c ∧ c ≤ 90) ∨ (48 ≤ c ∧ c ≤ 57) ∨ (c = 95) ∨ (c < 48) ∨ (57 < c ∧ c < 65) ∨ ((90 < c ∧ c < 97 ∧ c ≠ 95)) ∨ (122 < c) := by omega
   rcases Nat.eq_zero_or_pos k with rfl | hpos
   ·
    have hix0 : ∀ w, (Instr.index 9 (.string s) (.int .i64 0)).run Tryz.prog w = .ok (.int .u8 c) w := hix
    clear hix hdd
    have hd0 : decide ((0 : Int) < (s.size : Int)) = true := by simp; omega
    rcases cls with cl | cl | cl | cl | cl | cl | cl | cl
    ·
     have cl' := cl
     have z0 : decide (97 ≤ c) = true := by simp; omega
     have z1 : decide (c ≤ 122) = true := by simp; omega
     have z2 : decide (65 ≤ c) = true := by simp; omega
     have z3 : decide (c ≤ 90) = false := by simp; omega
     have z4 : decide (48 ≤ c) = true := by simp; omega
     have z5 : decide (c ≤ 57) = false := by simp; omega
     have z6 : (c == 95) = false := by rw [beq_eq_false_iff_ne]; omega
     have hn := Lib.hid (hbad'.out (by omega))
     clear cl cl'
     go_wp2_with fail
     go_ret
     exact ⟨by rw [hn.out]; rfl, rfl⟩
    ·
     have cl' := cl
     have z0 : decide (97 ≤ c) = false := by simp; omega
     have z1 : decide (c ≤ 122) = true := by simp; omega
     have z2 : decide (65 ≤ c) = true := by simp; omega
     have z3 : decide (c ≤ 90) = true := by simp; omega
     have z4 : decide (48 ≤ c) = true := by simp; omega
     have z5 : decide (c ≤ 57) = false := by simp; omega
     have z6 : (c == 95) = false := by rw [beq_eq_false_iff_ne]; omega
     have hc := Lib.hid (hok'.out (fun h => by omega))
     clear cl cl'
     go_wp2_with fail
     exact ⟨⟨1, hlt, by go_num, ⟨hc.out.1, fun _ => hc.out.2⟩, by first | trivial | rfl⟩, by simp [intOf]; omega⟩
    ·
     have cl' := cl
     have z0 : decide (97 ≤ c) = false := by simp; omega
     have z1 : decide (c ≤ 122) = true := by simp; omega
     have z2 : decide (65 ≤ c) = false := by simp; omega
     have z3 : decide (c ≤ 90) = true := by simp; omega
     have z4 : decide (48 ≤ c) = true := by simp; omega
     have z5 : decide (c ≤ 57) = true := by simp; omega
     have z6 : (c == 95) = false := by rw [beq_eq_false_iff_ne]; omega
     have hn := Lib.hid (hbad'.out (by omega))
     clear cl cl'
     go_wp2_with fail
     go_ret
     exact ⟨by rw [hn.out]; rfl, rfl⟩
    ·
     have cl' := cl
     have z0 : decide (97 ≤ c) = false := by simp; omega
     have z1 : decide (c ≤ 122) = true := by simp; omega
     have z2 : decide (65 ≤ c) = true := by simp; omega
     have z3 : decide (c ≤ 90) = false := by simp; omega
     have z4 : decide (48 ≤ c) = true := by simp; omega
     have z5 : decide (c ≤ 57) = false := by simp; omega
     have z6 : (c == 95) = true := by rw [beq_iff_eq]; omega
     have hc := Lib.hid (hok'.out (fun h => by omega))
     clear cl cl'
     go_wp2_with fail
     exact ⟨⟨1, hlt, by go_num, ⟨hc.out.1, fun _ => hc.out.2⟩, by first | trivial | rfl⟩, by simp [intOf]; omega⟩
    ·
     have cl' := cl
     have z0 : decide (97 ≤ c) = false := by simp; omega
     have z1 : decide (c ≤ 122) = true := by simp; omega
     have z2 : decide (65 ≤ c) = false := by simp; omega
     have z3 : decide (c ≤ 90) = true := by simp; omega
     have z4 : decide (48 ≤ c) = false := by simp; omega
     have z5 : decide (c ≤ 57) = true := by simp; omega
     have z6 : (c == 95) = false := by rw [beq_eq_false_iff_ne]; omega
     have hn := Lib.hid (hbad'.out (by omega))
     clear cl cl'
     go_wp2_with fail
     go_ret
     exact ⟨by rw [hn.out]; rfl, rfl⟩
    ·
     have cl' := cl
     have z0 : decide (97 ≤ c) = false := by simp; omega
     have z1 : decide (c ≤ 122) = true := by simp; omega
     have z2 : decide (65 ≤ c) = false := by simp; omega
     have z3 : decide (c ≤ 90) = true := by simp; omega
     have z4 : decide (48 ≤ c) = true := by simp; omega
     have z5 : decide (c ≤ 57) = false := by simp; omega
     have z6 : (c == 95) = false := by rw [beq_eq_false_iff_ne]; omega
     have hn := Lib.hid (hbad'.out (by omega))
     clear cl cl'
     go_wp2_with fail
     go_ret
     exact ⟨by rw [hn.out]; rfl, rfl⟩
    ·
     have cl' := cl
     have z0 : decide (97 ≤ c) = false := by simp; omega
     have z1 : decide (c ≤ 122) = true := by simp; omega
     have z2 : decide (65 ≤ c) = true := by simp; omega
     have z3 : decide (c ≤ 90) = false := by simp; omega
     have z4 : decide (48 ≤ c) = true := by simp; omega
     have z5 : decide (c ≤ 57) = false := by simp; omega
     have z6 : (c == 95) = false := by rw [beq_eq_false_iff_ne]; omega
     have hn := Lib.hid (hbad'.out (by omega))
     clear cl cl'
     go_wp2_with fail
     go_ret
     exact ⟨by rw [hn.out]; rfl, rfl⟩
    ·
     have cl' := cl
     have z0 : decide (97 ≤ c) = true := by simp; omega
     have z1 : decide (c ≤ 122) = false := by simp; omega
     have z2 : decide (65 ≤ c) = true := by simp; omega
     have z3 : decide (c ≤ 90) = false := by simp; omega
     have z4 : decide (48 ≤ c) = true := by simp; omega
     have z5 : decide (c ≤ 57) = false := by simp; omega
     have z6 : (c == 95) = false := by rw [beq_eq_false_iff_ne]; omega
     have hn := Lib.hid (hbad'.out (by omega))
     clear cl cl'
     go_wp2_with fail
     go_ret
     exact ⟨by rw [hn.out]; rfl, rfl⟩
   ·
    have hk0 : ((k : Int) == 0) = false := by rw [beq_eq_false_iff_ne]; omega
    rcases cls with cl | cl | cl | cl | cl | cl | cl | cl
    ·
     have cl' := cl
     have z0 : decide (97 ≤ c) = true := by simp; omega
     have z1 : decide (c ≤ 122) = true := by simp; omega
     have z2 : decide (65 ≤ c) = true := by simp; omega
     have z3 : decide (c ≤ 90) = false := by simp; omega
     have z4 : decide (48 ≤ c) = true := by simp; omega
     have z5 : decide (c ≤ 57) = false := by simp; omega
     have z6 : (c == 95) = false := by rw [beq_eq_false_iff_ne]; omega
     have hc := Lib.hid (hok'.out (fun h => by omega))
     clear cl cl'
     go_wp2_with fail
     exact ⟨⟨k + 1, hlt, by go_num, ⟨hc.out.1, fun _ => hc.out.2⟩, by first | trivial | rfl⟩, by simp [intOf]; omega⟩
    ·
     have cl' := cl
     have z0 : decide (97 ≤ c) = false := by simp; omega
     have z1 : decide (c ≤ 122) = true := by simp; omega
     have z2 : decide (65 ≤ c) = true := by simp; omega
     have z3 : decide (c ≤ 90) = true := by simp; omega
     have z4 : decide (48 ≤ c) = true := by simp; omega
     have z5 : decide (c ≤ 57) = false := by simp; omega
     have z6 : (c == 95) = false := by rw [beq_eq_false_iff_ne]; omega
     have hc := Lib.hid (hok'.out (fun h => by omega))
     clear cl cl'
     go_wp2_with fail
     exact ⟨⟨k + 1, hlt, by go_num, ⟨hc.out.1, fun _ => hc.out.2⟩, by first | trivial | rfl⟩, by simp [intOf]; omega⟩
    ·
     have cl' := cl
     have z0 : decide (97 ≤ c) = false := by simp; omega
     have z1 : decide (c ≤ 122) = true := by simp; omega
     have z2 : decide (65 ≤ c) = false := by simp; omega
     have z3 : decide (c ≤ 90) = true := by simp; omega
     have z4 : decide (48 ≤ c) = true := by simp; omega
     have z5 : decide (c ≤ 57) = true := by simp; omega
     have z6 : (c == 95) = false := by rw [beq_eq_false_iff_ne]; omega
     have hc := Lib.hid (hok'.out (fun h => by omega))
     clear cl cl'
     go_wp2_with fail
     exact ⟨⟨k + 1, hlt, by go_num, ⟨hc.out.1, fun _ => hc.out.2⟩, by first | trivial | rfl⟩, by simp [intOf]; omega⟩
    ·
     have cl' := cl
     have z0 : decide (97 ≤ c) = false := by simp; omega
     have z1 : decide (c ≤ 122) = true := by simp; omega
     have z2 : decide (65 ≤ c) = true := by simp; omega
     have z3 : decide (c ≤ 90) = false := by simp; omega
     have z4 : decide (48 ≤ c) = true := by simp; omega
     have z5 : decide (c ≤ 57) = false := by simp; omega
     have z6 : (c == 95) = true := by rw [beq_iff_eq]; omega
     have hc := Lib.hid (hok'.out (fun h => by omega))
     clear cl cl'
     go_wp2_with fail
     exact ⟨⟨k + 1, hlt, by go_num, ⟨hc.out.1, fun _ => hc.out.2⟩, by first | trivial | rfl⟩, by simp [intOf]; omega⟩
    ·
     have cl' := cl
     have z0 : decide (97 ≤ c) = false := by simp; omega
     have z1 : decide (c ≤ 122) = true := by simp; omega
     have z2 : decide (65 ≤ c) = false := by simp; omega
     have z3 : decide (c ≤ 90) = true := by simp; omega
     have z4 : decide (48 ≤ c) = false := by simp; omega
     have z5 : decide (c ≤ 57) = true := by simp; omega
     have z6 : (c == 95) = false := by rw [beq_eq_false_iff_ne]; omega
     have hn := Lib.hid (hbad'.out (by omega))
     clear cl cl'
     go_wp2_with fail
     go_ret
     exact ⟨by rw [hn.out]; rfl, rfl⟩
    ·
     have cl' := cl
     have z0 : decide (97 ≤ c) = false := by simp; omega
     have z1 : decide (c ≤ 122) = true := by simp; omega
     have z2 : decide (65 ≤ c) = false := by simp; omega
     have z3 : decide (c ≤ 90) = true := by simp; omega
     have z4 : decide (48 ≤ c) = true := by simp; omega
     have z5 : decide (c ≤ 57) = false := by simp; omega
     have z6 : (c == 95) = false := by rw [beq_eq_false_iff_ne]; omega
     have hn := Lib.hid (hbad'.out (by omega))
     clear cl cl'
     go_wp2_with fail
     go_ret
     exact ⟨by rw [hn.out]; rfl, rfl⟩
    ·
     have cl' := cl
     have z0 : decide (97 ≤ c) = false := by simp; omega
     have z1 : decide (c ≤ 122) = true := by simp; omega
     have z2 : decide (65 ≤ c) = true := by simp; omega
     have z3 : decide (c ≤ 90) = false := by simp; omega
     have z4 : decide (48 ≤ c) = true := by simp; omega
     have z5 : decide (c ≤ 57) = false := by simp; omega
     have z6 : (c == 95) = false := by rw [beq_eq_false_iff_ne]; omega
     have hn := Lib.hid (hbad'.out (by omega))
     clear cl cl'
     go_wp2_with fail
     go_ret
     exact ⟨by rw [hn.out]; rfl, rfl⟩
    ·
     have cl' := cl
     have z0 : decide (97 ≤ c) = true := by simp; omega
     have z1 : decide (c ≤ 122) = false := by simp; omega
     have z2 : decide (65 ≤ c) = true := by simp; omega
     have z3 : decide (c ≤ 90) = false := by simp; omega
     have z4 : decide (48 ≤ c) = true := by simp; omega
     have z5 : decide (c ≤ 57) = false := by simp; omega
     have z6 : (c == 95) = false := by rw [beq_eq_false_iff_ne]; omega
     have hn := Lib.hid (hbad'.out (by omega))
     clear cl cl'
     go_wp2_with fail
     go_ret
     exact ⟨by rw [hn.out]; rfl, rfl⟩
  ·
   have hdd : decide ((k : Int) < (s.size : Int)) = false := by simp; omega
   have hke : k = s.size := by omega
   have hn : Hid (isVarN s = true) := by
    have h9 := hI.out
    rw [hke] at h9
    show _ = _
    simp [isVarN, h1, h2, h3, h9.1, h9.2 (by omega)]
   clear hke
   go_wp2_with fail
   go_ret
   exact ⟨by rw [hn.out]; rfl, rfl⟩
set_option maxHeartbeats 800000 in
theorem rword_c (s : ByteArray) (w : World) : Calls Tryz.prog 76 #[.string s] w fun e w' => e = .returned (.bool (wrd s)) ∧ w = w' := by
 unfold wrd
 rcases or6 (s.toList == [99, 97, 115, 101]) (s.toList == [111, 102]) (s.toList == [101, 110, 100]) (s.toList == [114, 101, 99, 101, 105, 118, 101]) (s.toList == [97, 102, 116, 101, 114]) (s.toList == [114, 101, 109]) with h1 | ⟨h1, h2 | ⟨h2, h3 | ⟨h3, h4 | ⟨h4, h5 | ⟨h5, h6 | h6⟩⟩⟩⟩⟩
 all_goals (simp only [*, Bool.or_true, Bool.or_false, Bool.false_or, Bool.true_or]; go_enter Tryz.func76, Tryz.ntmps76; go_wp2; go_ret; exact ⟨rfl, rfl⟩)

set_option maxHeartbeats 800000 in
theorem rnamed_c (s : ByteArray) (W : World) : Calls Tryz.prog 58 #[.string s] W fun e w' => e = .returned (.bool (isName s && !wrd s)) ∧ w' = W := by
 have h1 := Lib.hid (rname_c s W)
 have h2 := Lib.hid (rword_c s W)
 generalize isName s = a at h1 ⊢
 generalize wrd s = b at h2 ⊢
 cases a
 all_goals
  go_enter Tryz.func58, Tryz.ntmps58
  go_wp2_with fail
  refine h1.out.mono ?_
  rintro e w1 ⟨rfl, rfl⟩
  go_wp2_with fail
  first
   | (go_ret; exact ⟨rfl, rfl⟩)
   | (refine h2.out.mono ?_
      rintro e w2 ⟨rfl, rfl⟩
      go_wp2_with fail
      go_ret
      exact ⟨by simp, rfl⟩)
end Go.Proofs.YtjedbfbolifjjaaGreatDoor
