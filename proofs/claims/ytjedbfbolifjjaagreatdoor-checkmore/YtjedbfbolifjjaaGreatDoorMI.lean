/-
  Has a text this error; the chapter's examples.
  The texts and rows of a parsed tree are small (pure).
  The reference's names of atoms and of variables.
-/
import Derived.Test.YtjedbfbolifjjaaGreatDoorMF
import Derived.Test.YtjedbfbolifjjaaGreatDoorKD
set_option linter.unusedVariables false
set_option linter.unusedSimpArgs false
namespace Go.Proofs.YtjedbfbolifjjaaGreatDoor
open Go.RowKit Go.Maps
variable {W W' : World}
def txV (s : ByteArray) (e : Int) : Bool := match textV s with
 | .ok T => chkV T == e
 | .error _ => false
set_option maxRecDepth 100000 in
set_option maxHeartbeats 1600000 in
theorem istx_c (W : World) (s : ByteArray) (e : Int) (hE : Er W) (hS : Sg W) (hL : Lv W) (hB : Bu W) (hz : ∀ T, textV s = .ok T → Szs [T]) : Calls Tryz.prog 24 #[.string s, .int .i64 e] W fun x w' => x = .returned (.bool (txV s e)) ∧ Gr (fun _ => False) W w' := by
 have ht := tree_c W s hE hS hL
 unfold txV
 cases hv : textV s with
 | error p =>
  rw [hv] at ht
  replace ht := Lib.hid ht
  clear hE hS hL hB hz hv
  go_enter Tryz.func24, Tryz.ntmps24
  go_wp2_with fail
  refine ht.out.mono ?_
  rintro x w1 ⟨rfl, g1⟩
  have gA := Gr.alloc w1 (.cells zc 25) (fun _ => False)
  go_wp2_with fail
  go_ret
  exact ⟨rfl, g1.trans gA⟩
 | ok T =>
  rw [hv] at ht
  have hs := hz T hv
  show Calls Tryz.prog 24 #[.string s, .int .i64 e] W fun x w' => x = .returned (.bool (chkV T == e)) ∧ Gr (fun _ => False) W w'
  generalize hcv : chkV T = c
  replace hcv := Lib.hid hcv
  replace ht := Lib.hid ht
  replace hB := Lib.hid hB
  clear hE hS hL hz hv
  go_enter Tryz.func24, Tryz.ntmps24
  go_wp2_with fail
  refine ht.out.mono ?_
  rintro x w1 ⟨v, rfl, rep, g1⟩
  obtain ⟨tk, tt, tn, a1, n1, c1, a2, n2, c2, rfl⟩ := rep.agg
  have gA := Gr.alloc w1 (.cells #[.int .i64 tk, .string tt, .int .i64 tn, .slice a1 n1 c1, .slice a2 n2 c2] 25) (fun _ => False)
  obtain ⟨⟨k0, k1, k2, k3, k4⟩, _⟩ := five_cells (heap_alloc_new w1 (.cells #[.int .i64 tk, .string tt, .int .i64 tn, .slice a1 n1 c1, .slice a2 n2 c2] 25))
  have hc := check_c (w1.alloc (.cells #[.int .i64 tk, .string tt, .int .i64 tn, .slice a1 n1 c1, .slice a2 n2 c2] 25)) T _ ((rep.gr gA (fun k hk e => e)).gen.turn (fun z hz' hl => ⟨hl, rfl⟩)) hs (Bu.gr hB.out (g1.trans gA) (fun e => e))
  rw [hcv.out] at hc
  replace hc := Lib.hid hc
  clear rep
  go_wp2_with fail
  refine hc.out.mono ?_
  rintro x w2 ⟨rfl, g2⟩
  go_wp2_with fail
  go_ret
  exact ⟨rfl, (g1.trans gA).trans g2⟩
theorem txV_of {s : ByteArray} {e : Int} {T : Tr} (h : textV s = .ok T) (hz : Szs [T]) (hc : chkV T = e) : txV s e = true ∧ ∀ T, textV s = .ok T → Szs [T] := by
 unfold txV
 rw [h]
 refine ⟨by simpa using hc, fun T' e' => ?_⟩
 cases e'
 exact hz
abbrev xB : ByteArray := ⟨#[88]⟩
abbrev yB : ByteArray := ⟨#[89]⟩
abbrev fB : ByteArray := ⟨#[102]⟩
abbrev plB : ByteArray := ⟨#[43]⟩
abbrev tX : Tr := .mk 3 xB 0 [] []
abbrev tY : Tr := .mk 3 yB 0 [] []
abbrev tI (n : Int) : Tr := .mk 1 e0 n [] []
abbrev tE (l : List Tr) : Tr := .mk 9 e0 0 [] l
abbrev tB (l : List Tr) : Tr := .mk 16 e0 0 [] l
abbrev mainT (l : List Tr) : Tr := .mk 18 e0 0 [] [.mk 17 mainB 0 [] [tB l]]
def chkW (b1 b2 b3 b4 b5 b6 b7 b8 b9 : Bool) : Int :=
 if b1 = true then 170 else if b2 = true then 177 else if b3 = true then 170 else if b4 = true then 171 else if b5 = true then 172 else if b6 = true then 173 else if b7 = true then 174 else if b8 = true then 175 else if b9 = true then 176 else 0
theorem chkV_W (k : Int) (s : ByteArray) (n : Int) (b : List Int) (l : List Tr) : chkV (.mk k s n b l) = chkW (crowdV (.mk k s n b l)) ((k != 18) || (preL [Tr.mk k s n b l]).any misV) ((preL [Tr.mk k s n b l]).any overV) (decide (((hdsL [] l).length : Int) < (l.length : Int)) || (preL [Tr.mk k s n b l]).any ptV) ((preL [Tr.mk k s n b l]).any nbV) ((preL [Tr.mk k s n b l]).any pwV) ((preL [Tr.mk k s n b l]).any unbV) ((preL [Tr.mk k s n b l]).any (uncV (hdsL [] l))) (!inH (hdsL [] l) (mainB, 0)) := rfl
abbrev tx1 : ByteArray := { data := #[109, 97, 105, 110, 40, 41, 32, 45, 62, 32, 88, 46] }
abbrev TT1 : Tr := mainT [tX]
set_option maxRecDepth 100000 in
theorem rd1 : textV tx1 = .ok TT1 := by kernel_rfl
set_option maxRecDepth 100000 in
theorem ck1 : Szs [TT1] ∧ chkV TT1 = 174 := by
 obtain ⟨L, hp⟩ : ∃ L, L = preL [TT1] := ⟨_, rfl⟩
 have hp' := hp
 simp only [preL_cons, preL_nil, List.append_nil, List.nil_append, List.cons_append] at hp'
 have h1 : crowdV TT1 = false := by unfold crowdV; rw [← hp, hp']; rfl
 have h2 : L.any misV = false := by rw [hp']; decide +kernel
 have h3 : L.any overV = false := by rw [hp']; simp [overV, slotV, slL, preL_cons, preL_nil, goA, pst, putL, newN, inL]
 have h4 : (decide (((hdsL [] TT1.l).length : Int) < (TT1.l.length : Int)) || L.any ptV) = false := by rw [hp']; decide +kernel
 have h5 : L.any nbV = false := by rw [hp']; decide +kernel
 have h6 : L.any pwV = false := by rw [hp']; simp [pwV, patV_mk, isK, patL_all]
 have h7 : L.any unbV = true := by rw [hp']; simp [unbV, lk, putsT, putT, goA, pst, putL, newN, inL, aftV, preL_cons, preL_nil]
 refine ⟨fun U hU => ?_, ?_⟩
 · rw [← hp, hp'] at hU
   simp only [List.mem_cons, List.not_mem_nil, or_false] at hU
   rcases hU with rfl | rfl | rfl | rfl <;> exact ⟨by decide, by decide⟩
 · rw [chkV_W, ← hp, h1, h2, h3, h4, h5, h6, h7]
   rfl
abbrev tx2 : ByteArray := { data := #[109, 97, 105, 110, 40, 41, 32, 45, 62, 32, 88, 32, 61, 32, 49, 44, 32, 88, 32, 61, 32, 50, 46] }
abbrev TT2 : Tr := mainT [tE [tX, tI 1], tE [tX, tI 2]]
set_option maxRecDepth 100000 in
theorem rd2 : textV tx2 = .ok TT2 := by kernel_rfl
set_option maxRecDepth 100000 in
theorem ck2 : Szs [TT2] ∧ chkV TT2 = 0 := by
 obtain ⟨L, hp⟩ : ∃ L, L = preL [TT2] := ⟨_, rfl⟩
 have hp' := hp
 simp only [preL_cons, preL_nil, List.append_nil, List.nil_append, List.cons_append] at hp'
 have h1 : crowdV TT2 = false := by unfold crowdV; rw [← hp, hp']; rfl
 have h2 : L.any misV = false := by rw [hp']; decide +kernel
 have h3 : L.any overV = false := by rw [hp']; simp [overV, slotV, slL, preL_cons, preL_nil, goA, pst, putL, newN, inL]
 have h4 : (decide (((hdsL [] TT2.l).length : Int) < (TT2.l.length : Int)) || L.any ptV) = false := by rw [hp']; decide +kernel
 have h5 : L.any nbV = false := by rw [hp']; decide +kernel
 have h6 : L.any pwV = false := by rw [hp']; simp [pwV, patV_mk, isK, patL_all]
 have h7 : L.any unbV = false := by rw [hp']; simp [unbV, lk, putsT, putT, goA, pst, putL, newN, inL, aftV, preL_cons, preL_nil]
 have h8 : L.any (uncV (hdsL [] TT2.l)) = false := by rw [hp']; decide +kernel
 have h9 : (!inH (hdsL [] TT2.l) (mainB, 0)) = false := by decide +kernel
 refine ⟨fun U hU => ?_, ?_⟩
 · rw [← hp, hp'] at hU
   simp only [List.mem_cons, List.not_mem_nil, or_false] at hU
   rcases hU with rfl | rfl | rfl | rfl | rfl | rfl | rfl | rfl | rfl <;> exact ⟨by decide, by decide⟩
 · rw [chkV_W, ← hp, h1, h2, h3, h4, h5, h6, h7, h8, h9]
   rfl
abbrev tx3 : ByteArray := { data := #[109, 97, 105, 110, 40, 41, 32, 45, 62, 32, 99, 97, 115, 101, 32, 49, 32, 111, 102, 32, 89, 32, 45, 62, 32, 89, 32, 101, 110, 100, 44, 32, 89, 46] }
abbrev TT3 : Tr := mainT [.mk 12 e0 0 [] [tI 1, .mk 15 e0 0 [] [tY, tB [tY]]], tY]
set_option maxRecDepth 100000 in
theorem rd3 : textV tx3 = .ok TT3 := by kernel_rfl
set_option maxRecDepth 100000 in
theorem ck3 : Szs [TT3] ∧ chkV TT3 = 174 := by
 obtain ⟨L, hp⟩ : ∃ L, L = preL [TT3] := ⟨_, rfl⟩
 have hp' := hp
 simp only [preL_cons, preL_nil, List.append_nil, List.nil_append, List.cons_append] at hp'
 have h1 : crowdV TT3 = false := by unfold crowdV; rw [← hp, hp']; rfl
 have h2 : L.any misV = false := by rw [hp']; decide +kernel
 have h3 : L.any overV = false := by rw [hp']; simp [overV, slotV, slL, preL_cons, preL_nil, goA, pst, putL, newN, inL]
 have h4 : (decide (((hdsL [] TT3.l).length : Int) < (TT3.l.length : Int)) || L.any ptV) = false := by rw [hp']; decide +kernel
 have h5 : L.any nbV = false := by rw [hp']; decide +kernel
 have h6 : L.any pwV = false := by rw [hp']; simp [pwV, patV_mk, isK, patL_all]
 have h7 : L.any unbV = true := by rw [hp']; simp [unbV, lk, putsT, putT, goA, pst, putL, newN, inL, aftV, preL_cons, preL_nil]
 refine ⟨fun U hU => ?_, ?_⟩
 · rw [← hp, hp'] at hU
   simp only [List.mem_cons, List.not_mem_nil, or_false] at hU
   rcases hU with rfl | rfl | rfl | rfl | rfl | rfl | rfl | rfl | rfl | rfl <;> exact ⟨by decide, by decide⟩
 · rw [chkV_W, ← hp, h1, h2, h3, h4, h5, h6, h7]
   rfl
abbrev tx4 : ByteArray := { data := #[109, 97, 105, 110, 40, 41, 32, 45, 62, 32, 102, 40, 41, 46] }
abbrev TT4 : Tr := mainT [.mk 11 fB 0 [] []]
set_option maxRecDepth 100000 in
theorem rd4 : textV tx4 = .ok TT4 := by kernel_rfl
set_option maxRecDepth 100000 in
theorem ck4 : Szs [TT4] ∧ chkV TT4 = 175 := by
 obtain ⟨L, hp⟩ : ∃ L, L = preL [TT4] := ⟨_, rfl⟩
 have hp' := hp
 simp only [preL_cons, preL_nil, List.append_nil, List.nil_append, List.cons_append] at hp'
 have h1 : crowdV TT4 = false := by unfold crowdV; rw [← hp, hp']; rfl
 have h2 : L.any misV = false := by rw [hp']; decide +kernel
 have h3 : L.any overV = false := by rw [hp']; simp [overV, slotV, slL, preL_cons, preL_nil, goA, pst, putL, newN, inL]
 have h4 : (decide (((hdsL [] TT4.l).length : Int) < (TT4.l.length : Int)) || L.any ptV) = false := by rw [hp']; decide +kernel
 have h5 : L.any nbV = false := by rw [hp']; decide +kernel
 have h6 : L.any pwV = false := by rw [hp']; simp [pwV, patV_mk, isK, patL_all]
 have h7 : L.any unbV = false := by rw [hp']; simp [unbV, lk, putsT, putT, goA, pst, putL, newN, inL, aftV, preL_cons, preL_nil]
 have h8 : L.any (uncV (hdsL [] TT4.l)) = true := by rw [hp']; decide +kernel
 have h9 : (!inH (hdsL [] TT4.l) (mainB, 0)) = false := by decide +kernel
 refine ⟨fun U hU => ?_, ?_⟩
 · rw [← hp, hp'] at hU
   simp only [List.mem_cons, List.not_mem_nil, or_false] at hU
   rcases hU with rfl | rfl | rfl | rfl <;> exact ⟨by decide, by decide⟩
 · rw [chkV_W, ← hp, h1, h2, h3, h4, h5, h6, h7, h8, h9]
   rfl
abbrev tx5 : ByteArray := { data := #[109, 97, 105, 110, 40, 41, 32, 45, 62, 32, 49, 32, 43, 32, 50, 32, 61, 32, 51, 46] }
abbrev TT5 : Tr := mainT [tE [.mk 8 plB 0 [] [tI 1, tI 2], tI 3]]
set_option maxRecDepth 100000 in
theorem rd5 : textV tx5 = .ok TT5 := by kernel_rfl
set_option maxRecDepth 100000 in
theorem ck5 : Szs [TT5] ∧ chkV TT5 = 173 := by
 obtain ⟨L, hp⟩ : ∃ L, L = preL [TT5] := ⟨_, rfl⟩
 have hp' := hp
 simp only [preL_cons, preL_nil, List.append_nil, List.nil_append, List.cons_append] at hp'
 have h1 : crowdV TT5 = false := by unfold crowdV; rw [← hp, hp']; rfl
 have h2 : L.any misV = false := by rw [hp']; decide +kernel
 have h3 : L.any overV = false := by rw [hp']; simp [overV, slotV, slL, preL_cons, preL_nil, goA, pst, putL, newN, inL]
 have h4 : (decide (((hdsL [] TT5.l).length : Int) < (TT5.l.length : Int)) || L.any ptV) = false := by rw [hp']; decide +kernel
 have h5 : L.any nbV = false := by rw [hp']; decide +kernel
 have h6 : L.any pwV = true := by rw [hp']; simp [pwV, patV_mk, isK, patL_all]
 refine ⟨fun U hU => ?_, ?_⟩
 · rw [← hp, hp'] at hU
   simp only [List.mem_cons, List.not_mem_nil, or_false] at hU
   rcases hU with rfl | rfl | rfl | rfl | rfl | rfl | rfl | rfl <;> exact ⟨by decide, by decide⟩
 · rw [chkV_W, ← hp, h1, h2, h3, h4, h5, h6]
   rfl
abbrev selfB : ByteArray := { data := #[115, 101, 108, 102] }
set_option maxRecDepth 100000 in
set_option maxHeartbeats 3200000 in
theorem alive_c (W : World) (hE : Er W) (hS : Sg W) (hL : Lv W) (hB : Bu W) : Calls Tryz.prog 9 #[] W fun x w' => x = .returned (.bool true) ∧ Gr (fun _ => False) W w' := by
 have hi : Hid (∀ w s e, Gr (fun _ => False) W w → (txV s e = true ∧ ∀ T, textV s = .ok T → Szs [T]) → Calls Tryz.prog 24 #[.string s, .int .i64 e] w fun x w' => x = .returned (.bool true) ∧ Gr (fun _ => False) w w') := fun w s e gw h => by
  have h1 := istx_c w s e (hE.gr gw (fun e => e)) (hS.gr gw (fun e => e)) (hL.gr gw (fun e => e) (fun e => e)) (Bu.gr hB gw (fun e => e)) h.2
  rw [h.1] at h1
  exact h1
 have hb : Hid (∀ w, Gr (fun _ => False) W w → Calls Tryz.prog 15 #[.string selfB, .int .i64 0] w fun x w' => x = .returned (.int .i64 1) ∧ Gr (fun _ => False) w w') := fun w gw => by
  have h1 := builtin_c w selfB 0 (Bu.gr hB gw (fun e => e))
  rw [show biV selfB 0 = 1 from by decide +kernel] at h1
  exact h1
 have ha : Hid (∀ w, Gr (fun _ => False) W w → Calls Tryz.prog 17 #[.int .i64 6] w fun x w' => x = .returned (.int .i64 3) ∧ Gr (fun _ => False) w w') := fun w gw => by
  have h1 := arity_c w 6 (Bu.gr hB gw (fun e => e))
  rw [show arV 6 = 3 from by decide +kernel] at h1
  exact h1
 clear hE hS hL hB
 go_enter Tryz.func9, Tryz.ntmps9
 go_wp2_with fail
 refine (hi.out _ tx1 174 (Gr.refl _ _) (txV_of rd1 ck1.1 ck1.2)).mono ?_
 rintro x w1 ⟨rfl, g1⟩
 go_wp2_with fail
 refine (hi.out _ tx2 0 g1 (txV_of rd2 ck2.1 ck2.2)).mono ?_
 rintro x w2 ⟨rfl, g2⟩
 replace g2 := g1.trans g2
 go_wp2_with fail
 refine (hi.out _ tx3 174 g2 (txV_of rd3 ck3.1 ck3.2)).mono ?_
 rintro x w3 ⟨rfl, g3⟩
 replace g3 := g2.trans g3
 go_wp2_with fail
 refine (hi.out _ tx4 175 g3 (txV_of rd4 ck4.1 ck4.2)).mono ?_
 rintro x w4 ⟨rfl, g4⟩
 replace g4 := g3.trans g4
 go_wp2_with fail
 refine (hi.out _ tx5 173 g4 (txV_of rd5 ck5.1 ck5.2)).mono ?_
 rintro x w5 ⟨rfl, g5⟩
 replace g5 := g4.trans g5
 go_wp2_with fail
 refine (hb.out _ g5).mono ?_
 rintro x w6 ⟨rfl, g6⟩
 replace g6 := g5.trans g6
 go_wp2_with fail
 refine (ha.out _ g6).mono ?_
 rintro x w7 ⟨rfl, g7⟩
 replace g7 := g6.trans g7
 go_wp2_with fail
 go_ret
 exact ⟨rfl, g7⟩
end Go.Proofs.YtjedbfbolifjjaaGreatDoor

namespace Go.Proofs.YtjedbfbolifjjaaGreatDoor
section
variable {ts : List Tn} {B N : Nat}
def smT (B N : Nat) : Tr → Prop
 | .mk _ s _ _ l => s.size ≤ B ∧ l.length ≤ N
def SmL (B N : Nat) (l : List Tr) : Prop := ∀ U ∈ preL l, smT B N U
theorem sm_nil : SmL B N [] := fun U h => by rw [preL_nil] at h; cases h
theorem sm_app {a r : List Tr} (h1 : SmL B N a) (h2 : SmL B N r) : SmL B N (a ++ r) := fun U h => by
 rw [preL_app] at h
 rcases List.mem_append.1 h with h | h
 · exact h1 U h
 · exact h2 U h
theorem sm_node {k : Int} {s : ByteArray} {n : Int} {b : List Int} {l : List Tr} (hs : s.size ≤ B) (hl : l.length ≤ N) (h : SmL B N l) : SmL B N [.mk k s n b l] := fun U hU => by
 rw [preL_cons, preL_nil, List.append_nil] at hU
 rcases List.mem_cons.1 hU with rfl | hU
 · exact ⟨hs, hl⟩
 · exact h U hU
theorem sm_two {T U : Tr} (h1 : SmL B N [T]) (h2 : SmL B N [U]) : SmL B N [T, U] := sm_app (a := [T]) h1 h2
def SmR (B N : Nat) (g : Rule) : Prop := ∀ p, SmL B N [(g p).1]
def SmQ (B N M : Nat) (g : Ps → List Tr × Ps) : Prop := ∀ p, SmL B N (g p).1 ∧ (g p).1.length ≤ M
theorem e0_sz : e0.size ≤ B := Nat.zero_le _
theorem sm_tr0 : SmL B N [tr0] := sm_node e0_sz (Nat.zero_le _) sm_nil
theorem pk_sz (hT : ∀ t ∈ ts, t.s.size ≤ B) (p : Ps) : (pkT ts p).s.size ≤ B := by
 unfold pkT
 split
 · cases h : ts[p.i]? with
   | none => exact e0_sz
   | some t => exact hT t (List.mem_of_getElem? h)
 · exact e0_sz
theorem name_sz (hT : ∀ t ∈ ts, t.s.size ≤ B) (k : Int) (p : Ps) : (nameV ts k p).1.size ≤ B := by
 unfold nameV
 split
 · exact pk_sz hT p
 · exact e0_sz
theorem sevL_sm (s : ByteArray) {g : Rule} (hg : SmR B N g) : ∀ (f : Nat) (l : List Tr) (p : Ps), SmL B N l → SmL B N (sevL ts s g f l p).1 ∧ (sevL ts s g f l p).1.length ≤ l.length + f
 | 0, l, p, h => ⟨h, Nat.le_refl _⟩
 | f + 1, l, p, h => by
  rw [sevL]
  split
  · obtain ⟨h1, h2⟩ := sevL_sm s hg f (l ++ [(g p.next).1]) (g p.next).2 (sm_app h (hg _))
    refine ⟨h1, ?_⟩
    rw [List.length_append, List.length_singleton] at h2
    omega
  · exact ⟨h, Nat.le_add_right _ _⟩
theorem sev_sm (s : ByteArray) {g : Rule} (hg : SmR B N g) : SmQ B N (ts.length + 1) (sevV ts s g) := fun p => by
 obtain ⟨h1, h2⟩ := sevL_sm (ts := ts) s hg ts.length [(g p).1] (g p).2 (hg p)
 exact ⟨h1, by rw [List.length_singleton] at h2; show (sevL ts s g ts.length [(g p).1] (g p).2).1.length ≤ _; omega⟩
theorem upto_sm (en : ByteArray) {g : Rule} (hg : SmR B N g) : SmQ B N (ts.length + 1) (uptoV ts en g) := fun p => by
 unfold uptoV
 split
 · exact ⟨sm_nil, Nat.zero_le _⟩
 · exact sev_sm cma hg p
variable (hT : ∀ t ∈ ts, t.s.size ≤ B) (hN : 2 * ts.length + 9 ≤ N)
theorem var_sm (hT : ∀ t ∈ ts, t.s.size ≤ B) : SmR B N (varV ts) := fun p => sm_node (name_sz hT 3 p) (Nat.zero_le _) sm_nil
theorem arrow_sm (hN : 2 * ts.length + 9 ≤ N) {ex : Rule} (hx : SmR B N ex) : SmR B N (arrowV ts ex) := fun p => by
 obtain ⟨h1, h2⟩ := sev_sm (ts := ts) cma hx (wantV ts arw p)
 exact sm_node e0_sz (by omega) h1
theorem deeper_sm {g : Rule} (hg : SmR B N g) : SmR B N (deeperV g) := fun p => by
 unfold deeperV
 split
 · exact sm_tr0
 · exact hg _
theorem clause_sm (hN : 2 * ts.length + 9 ≤ N) {ex un : Rule} (hx : SmR B N ex) (hu : SmR B N un) : SmR B N (clauseV ts ex un) := fun p =>
 sm_node e0_sz (show 2 ≤ N by omega) (sm_two (hu p) (arrow_sm hN hx _))
theorem choice_sm (hN : 2 * ts.length + 9 ≤ N) {ex un : Rule} (hx : SmR B N ex) (hu : SmR B N un) : SmR B N (choiceV ts ex un) := fun p => by
 obtain ⟨h1, h2⟩ := sev_sm (ts := ts) sem (clause_sm hN hx hu) (wantV ts wOf (ex p).2)
 refine sm_node e0_sz ?_ (sm_app (hx p) h1)
 rw [List.length_append, List.length_singleton]
 omega
theorem recv_sm (hN : 2 * ts.length + 9 ≤ N) {ex un : Rule} (hx : SmR B N ex) (hu : SmR B N un) : SmR B N (recvV ts ex un) := fun p => by
 have hc : SmL B N (rclV ts ex un p).1 ∧ (rclV ts ex un p).1.length ≤ ts.length + 1 := by
  unfold rclV
  split
  · exact ⟨sm_nil, Nat.zero_le _⟩
  · exact sev_sm sem (clause_sm hN hx hu) p
 generalize hq : rclV ts ex un p = q at hc
 have hr : SmL B N (raftV ts ex q).1 ∧ (raftV ts ex q).1.length ≤ ts.length + 2 := by
  unfold raftV
  split
  · refine ⟨sm_app hc.1 (sm_node e0_sz (show 2 ≤ N by omega) (sm_two (hx _) (arrow_sm hN hx _))), ?_⟩
    show (q.1 ++ [_]).length ≤ _
    rw [List.length_append, List.length_singleton]
    omega
  · exact ⟨hc.1, by omega⟩
 unfold recvV
 rw [hq]
 exact sm_node e0_sz (by omega) hr.1
theorem row_sm (hN : 2 * ts.length + 9 ≤ N) {ex : Rule} (hx : SmR B N ex) (k : Int) (en nm : ByteArray) (hs : nm.size ≤ B) (p : Ps) : SmL B N [.mk k nm 0 [] (uptoV ts en ex p).1] := by
 obtain ⟨h1, h2⟩ := upto_sm (ts := ts) en hx p
 exact sm_node hs (by omega) h1
theorem atom_sm (hT : ∀ t ∈ ts, t.s.size ≤ B) (hN : 2 * ts.length + 9 ≤ N) {ex : Rule} (hx : SmR B N ex) : SmR B N (atomV ts ex) := fun p => by
 unfold atomV
 split
 · exact deeper_sm (g := callV ts (nameV ts 2 p).1 ex) (fun q => row_sm hN hx 11 shutR _ (name_sz hT 2 p) q) _
 · exact sm_node (name_sz hT 2 p) (Nat.zero_le _) sm_nil
theorem nest_sm (hN : 2 * ts.length + 9 ≤ N) {ex un : Rule} (hx : SmR B N ex) (hu : SmR B N un) : SmR B N (nestV ts ex un) := fun p => by
 unfold nestV
 split
 · exact deeper_sm (g := bracketV ts ex) (fun q => hx q) _
 split
 · exact deeper_sm (g := tupleV ts ex) (fun q => row_sm hN hx 5 shut5 _ e0_sz q) _
 split
 · exact deeper_sm (g := listV ts ex) (fun q => row_sm hN hx 6 shut6 _ e0_sz q) _
 split
 · exact deeper_sm (choice_sm hN hx hu) _
 split
 · exact deeper_sm (recv_sm hN hx hu) _
 · exact sm_tr0
theorem prim_sm (hT : ∀ t ∈ ts, t.s.size ≤ B) (hN : 2 * ts.length + 9 ≤ N) {ex un : Rule} (hx : SmR B N ex) (hu : SmR B N un) : SmR B N (primV ts ex un) := fun p => by
 unfold primV
 split
 · exact sm_node e0_sz (Nat.zero_le _) sm_nil
 split
 · exact sm_node e0_sz (Nat.zero_le _) sm_nil
 split
 · exact var_sm hT p
 split
 · exact atom_sm hT hN hx p
 · exact nest_sm hN hx hu p
theorem unary_sm (hT : ∀ t ∈ ts, t.s.size ≤ B) (hN : 2 * ts.length + 9 ≤ N) {ex un : Rule} (hx : SmR B N ex) (hu : SmR B N un) : SmR B N (unaryV ts ex un) := fun p => by
 unfold unaryV
 split
 · exact sm_node e0_sz (show 1 ≤ N by omega) (deeper_sm hu p)
 · exact prim_sm hT hN hx hu p
theorem joinL_sm (hT : ∀ t ∈ ts, t.s.size ≤ B) (hN : 2 * ts.length + 9 ≤ N) {g : Rule} (hg : SmR B N g) (sg : List ByteArray) : ∀ (f : Nat) (t : Tr) (p : Ps), SmL B N [t] → SmL B N [(joinL ts sg g f t p).1]
 | 0, t, p, h => h
 | f + 1, t, p, h => by
  rw [joinL]
  split
  · exact joinL_sm hT hN hg sg f _ _ (sm_node (pk_sz hT p) (show 2 ≤ N by omega) (sm_two h (hg _)))
  · exact h
theorem join_sm (hT : ∀ t ∈ ts, t.s.size ≤ B) (hN : 2 * ts.length + 9 ≤ N) {g : Rule} (hg : SmR B N g) (sg : List ByteArray) (f : Nat) : SmR B N (joinV ts sg g f) := fun p => joinL_sm hT hN hg sg f _ _ (hg p)
theorem expr_sm (hN : 2 * ts.length + 9 ≤ N) {ex jn : Rule} (hx : SmR B N ex) (hj : SmR B N jn) : SmR B N (exprV ts ex jn) := fun p => by
 unfold exprV
 split
 · exact sm_node e0_sz (show 2 ≤ N by omega) (sm_two (hj p) (deeper_sm hx _))
 split
 · exact sm_node e0_sz (show 2 ≤ N by omega) (sm_two (hj p) (deeper_sm hx _))
 · exact hj p
theorem exun_sm (hT : ∀ t ∈ ts, t.s.size ≤ B) (hN : 2 * ts.length + 9 ≤ N) : ∀ m, SmR B N (exun ts m).1 ∧ SmR B N (exun ts m).2
 | 0 => ⟨fun _ => sm_tr0, fun _ => sm_tr0⟩
 | m + 1 => by
  obtain ⟨h1, h2⟩ := exun_sm hT hN m
  have hu := unary_sm hT hN h1 h2
  exact ⟨expr_sm hN h1 (join_sm hT hN (join_sm hT hN (join_sm hT hN hu _ _) _ _) _ _), hu⟩
theorem fun_sm (hT : ∀ t ∈ ts, t.s.size ≤ B) (hN : 2 * ts.length + 9 ≤ N) {ex : Rule} (hx : SmR B N ex) : SmR B N (funV ts ex) := fun p => by
 obtain ⟨h1, h2⟩ := upto_sm (ts := ts) shutR (var_sm (ts := ts) (N := N) hT) (wantV ts opn (nameV ts 2 p).2)
 refine sm_node (name_sz hT 2 p) ?_ (sm_app h1 (arrow_sm hN hx _))
 show ((uptoV ts shutR (varV ts) (wantV ts opn (nameV ts 2 p).2)).1 ++ [_]).length ≤ N
 rw [List.length_append, List.length_singleton]
 omega
theorem progL_sm (hT : ∀ t ∈ ts, t.s.size ≤ B) (hN : 2 * ts.length + 9 ≤ N) {ex : Rule} (hx : SmR B N ex) : ∀ (f : Nat) (l : List Tr) (p : Ps), SmL B N l → SmL B N (progL ts ex f l p).1 ∧ (progL ts ex f l p).1.length ≤ l.length + f
 | 0, l, p, h => ⟨h, Nat.le_refl _⟩
 | f + 1, l, p, h => by
  rw [progL]
  split
  · obtain ⟨h1, h2⟩ := progL_sm hT hN hx f (l ++ [(funV ts ex p).1]) (funV ts ex p).2 (sm_app h (fun_sm hT hN hx p))
    refine ⟨h1, ?_⟩
    rw [List.length_append, List.length_singleton] at h2
    omega
  · exact ⟨h, Nat.le_add_right _ _⟩
theorem parse_sm (hT : ∀ t ∈ ts, t.s.size ≤ B) {T : Tr} (h : parseV ts = .ok T) : SmL B (2 * ts.length + 9) [T] := by
 unfold parseV at h
 split at h
 · cases h
 ·
  cases h
  obtain ⟨h1, h2⟩ := progL_sm hT (Nat.le_refl _) (exun_sm hT (Nat.le_refl _) 41).1 (2 * ts.length + 1) [] ⟨0, 0, 0⟩ sm_nil
  refine sm_node e0_sz ?_ h1
  rw [List.length_nil] at h2
  show (progL ts (exun ts 41).1 (2 * ts.length + 1) [] ⟨0, 0, 0⟩).1.length ≤ _
  omega
end
/-- A text's tree is small. -/
theorem text_szs {s : ByteArray} {T : Tr} (h : textV s = .ok T) : Szs [T] := by
 unfold textV at h
 cases hv : scanV s with
 | error p => rw [hv] at h; cases h
 | ok l =>
  rw [hv] at h
  obtain ⟨h1, h2⟩ := scanV_all hv
  have := parse_sm (B := 60) (ts := l.map tnOf) (fun t ht => by obtain ⟨u, hu, rfl⟩ := List.mem_map.1 ht; exact (h1 u hu).1) h
  intro U hU
  obtain ⟨k, s', n, b, q⟩ := U
  have h3 := this _ hU
  rw [List.length_map] at h3
  exact ⟨by have := h3.1; omega, by have := h3.2; omega⟩
end Go.Proofs.YtjedbfbolifjjaaGreatDoor

namespace Go.Proofs.YtjedbfbolifjjaaGreatDoor
open Go.RowKit Go.Maps
variable {W W' : World}
end Go.Proofs.YtjedbfbolifjjaaGreatDoor
