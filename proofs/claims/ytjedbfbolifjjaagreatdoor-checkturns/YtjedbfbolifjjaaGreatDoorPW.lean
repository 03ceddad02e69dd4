/-
  What Check answers does not depend on what one variable is called, where nobody else is called so (pure).
  What Check answers does not depend on the order of functions (pure).
-/
import Derived.Test.YtjedbfbolifjjaaGreatDoorMF
import Derived.Test.YtjedbfbolifjjaaGreatDoorHH
set_option linter.unusedVariables false
set_option linter.unusedSimpArgs false
namespace Go.Proofs.YtjedbfbolifjjaaGreatDoor
open Go.RowKit Go.Maps
def OkN (L : List ByteArray) : Prop := ∀ x ∈ L, x ≠ zV
def nz (U : Tr) : Prop := U.k = 3 → U.s ≠ zV
def OkT (T : Tr) : Prop := ∀ U ∈ preL [T], nz U
theorem rn_inj {s t : ByteArray} (hs : s ≠ zV) (ht : t ≠ zV) : rn s = rn t ↔ s = t := by
 unfold rn
 by_cases h1 : s = aV <;> by_cases h2 : t = aV
 · simp [h1, h2]
 · rw [if_pos h1, if_neg h2]
   exact ⟨fun e => absurd e.symm ht, fun e => absurd (e ▸ h1) h2⟩
 · rw [if_neg h1, if_pos h2]
   exact ⟨fun e => absurd e hs, fun e => absurd (e ▸ h2) h1⟩
 · rw [if_neg h1, if_neg h2]
theorem rn_blank (s : ByteArray) : ((rn s).toList == [95]) = (s.toList == [95]) := by
 unfold rn
 split
 · rename_i h; subst h; decide +kernel
 · rfl
theorem in_ren {L : List ByteArray} {s : ByteArray} (hL : OkN L) (hs : s ≠ zV) : inL (L.map rn) (rn s) = inL L s := by
 unfold inL
 induction L with
 | nil => rfl
 | cons x L ih =>
  rw [List.map_cons, List.any_cons, List.any_cons, ih (fun y hy => hL y (by simp [hy]))]
  rw [show decide (rn x = rn s) = decide (x = s) from decide_eq_decide.2 (rn_inj (hL x (by simp)) hs)]
theorem new_ren {L : List ByteArray} {s : ByteArray} (hL : OkN L) (hs : s ≠ zV) : newN (L.map rn) (rn s) = newN L s := by
 unfold newN; rw [in_ren hL hs, rn_blank]
theorem put_ren {L : List ByteArray} {s : ByteArray} (hL : OkN L) (hs : s ≠ zV) : putL (L.map rn) (rn s) = (putL L s).map rn ∧ OkN (putL L s) := by
 unfold putL
 rw [new_ren hL hs]
 split
 · refine ⟨by simp, fun x hx => ?_⟩
   rcases List.mem_append.1 hx with h | h
   · exact hL x h
   · rw [List.mem_singleton.1 h]; exact hs
 · exact ⟨rfl, hL⟩
theorem goA_ren (step step' : List ByteArray → Tr → Bool × List ByteArray) : ∀ (l : List Tr), (∀ T ∈ l, ∀ L, OkN L → step' (L.map rn) (renV T) = ((step L T).1, (step L T).2.map rn) ∧ OkN (step L T).2) → ∀ L, OkN L →
 goA step' (L.map rn) (l.map renV) = ((goA step L l).1, (goA step L l).2.map rn) ∧ OkN (goA step L l).2
 | [], _, L, hL => ⟨rfl, hL⟩
 | T :: l, h, L, hL => by
  have ⟨h1, h2⟩ := h T (by simp) L hL
  have ih := goA_ren step step' l (fun U hU => h U (by simp [hU])) (step L T).2 h2
  rw [List.map_cons]
  unfold goA
  rw [h1]
  dsimp only
  split
  · exact ⟨rfl, h2⟩
  · exact ih
theorem pst_ren {L : List ByteArray} {T : Tr} (hL : OkN L) (hT : nz T) : pst (L.map rn) (renV T) = ((pst L T).1, (pst L T).2.map rn) ∧ OkN (pst L T).2 := by
 obtain ⟨k, s, n, b, l⟩ := T
 unfold pst renV
 dsimp only
 by_cases h : k = 3
 · subst h
   have := put_ren hL (hT rfl)
   rw [if_pos rfl, if_pos rfl]
   exact ⟨by rw [show rnS 3 s = rn s from rfl, this.1], this.2⟩
 · rw [if_neg h, if_neg h]
   exact ⟨rfl, hL⟩
theorem sl_ren {L : List ByteArray} {l : List Tr} (hL : OkN L) (hl : ∀ U ∈ preL l, nz U) : slL (L.map rn) (renL l) = (slL L l).map rn ∧ OkN (slL L l) := by
 have := goA_ren pst pst (preL l) (fun T hT L hL => pst_ren hL (hl T hT)) L hL
 rw [← pre_ren] at this
 exact ⟨by unfold slL; rw [this.1], this.2⟩
theorem putT_ren {L : List ByteArray} {T : Tr} (hL : OkN L) (hT : OkT T) : putT (L.map rn) (renV T) = (putT L T).map rn ∧ OkN (putT L T) := by
 have := sl_ren hL hT
 rw [renL_map] at this
 exact this
theorem putsT_ren : ∀ (l : List Tr) (L : List ByteArray), OkN L → (∀ U ∈ l, OkT U) → putsT (L.map rn) (renL l) = (putsT L l).map rn ∧ OkN (putsT L l)
 | [], L, hL, _ => by rw [renL_nil]; exact ⟨rfl, hL⟩
 | T :: l, L, hL, h => by
  have ⟨h1, h2⟩ := putT_ren hL (h T (by simp))
  have ih := putsT_ren l (putT L T) h2 (fun U hU => h U (by simp [hU]))
  rw [renL_map] at ih ⊢
  rw [List.map_cons]
  show putsT (putT (L.map rn) (renV T)) (l.map renV) = _ ∧ _
  rw [h1]
  exact ih
theorem isK_ren (m : Int) (T : Tr) : isK m (renV T) = isK m T := by obtain ⟨k, s, n, b, l⟩ := T; rfl
theorem exV_ren (T : Tr) : exV (renV T) = exV T := by obtain ⟨k, s, n, b, l⟩ := T; rfl
theorem all_ren (p : Tr → Bool) (hp : ∀ T, p (renV T) = p T) (l : List Tr) : (l.map renV).all p = l.all p := by
 rw [List.all_map]; congr 1; funext T; exact hp T
theorem opt_ren (p : Tr → Bool) (hp : ∀ T, p (renV T) = p T) (o : Option Tr) : ((o.map renV).map p).getD false = (o.map p).getD false := by
 cases o with
 | none => rfl
 | some T => exact hp T
theorem aft_ren (l : List Tr) : aftV (renL l) = aftV l := by
 unfold aftV
 rw [renL_map, List.getLast?_map]
 exact opt_ren _ (isK_ren 14) _
theorem cls_ren (l : List Tr) : clsV (renL l) = renL (clsV l) := by
 unfold clsV
 rw [aft_ren]
 split
 · rw [renL_map, renL_map, List.map_dropLast]
 · rfl
theorem ok_sub {T U : Tr} (h : OkT T) (hU : U ∈ preL [T]) : OkT U := fun V hV => h V (pre_in hU hV)
theorem ok_kid {k : Int} {s : ByteArray} {n : Int} {b : List Int} {l : List Tr} (h : OkT (.mk k s n b l)) {U : Tr} (hU : U ∈ l) : OkT U :=
 fun V hV => h V (by rw [preL_cons, preL_nil, List.append_nil]; exact List.mem_cons_of_mem _ (mem_pre hU V hV))
theorem lk_ren : ∀ (f : Nat) (T : Tr) (L : List ByteArray), OkN L → OkT T → lk f (L.map rn) (renV T) = ((lk f L T).1, (lk f L T).2.map rn) ∧ OkN (lk f L T).2
 | 0, T, L, hL, _ => ⟨rfl, hL⟩
 | f + 1, .mk k s n b l, L, hL, hT => by
  have ih := lk_ren f
  have hself : nz (.mk k s n b l) := hT _ (by rw [preL_cons]; simp)
  have kid : ∀ U ∈ l, OkT U := fun U hU => ok_kid hT hU
  unfold renV lk
  rw [aft_ren]
  by_cases h3 : k = 3
  · subst h3
    rw [if_pos rfl, if_pos rfl]
    exact ⟨by rw [show rnS 3 s = rn s from rfl, in_ren hL (hself rfl)], hL⟩
  rw [if_neg h3, if_neg h3]
  by_cases h9 : k = 9
  ·
   rw [if_pos h9, if_pos h9, renL_map]
   match l, kid with
   | [], _ => exact ⟨rfl, hL⟩
   | [_], _ => exact ⟨rfl, hL⟩
   | P :: X :: r, kid =>
    have ⟨h1, h2⟩ := ih X L hL (kid X (by simp))
    have ⟨h4, h5⟩ := putT_ren h2 (kid P (by simp))
    simp only [List.map_cons, h1, h4]
    exact ⟨trivial, h5⟩
  rw [if_neg h9, if_neg h9]
  by_cases h15 : k = 15
  ·
   rw [if_pos h15, if_pos h15, renL_map]
   match l, kid with
   | [], _ => exact ⟨rfl, hL⟩
   | [_], _ => exact ⟨rfl, hL⟩
   | P :: X :: r, kid =>
    have ⟨h4, h5⟩ := putT_ren hL (kid P (by simp))
    have ⟨h1, h2⟩ := ih X _ h5 (kid X (by simp))
    simp only [List.map_cons, h4, h1]
    exact ⟨trivial, hL⟩
  rw [if_neg h15, if_neg h15]
  have hgo : ∀ (q : List Tr) (L : List ByteArray), (∀ U ∈ q, OkT U) → OkN L → goA (lk f) (L.map rn) (renL q) = ((goA (lk f) L q).1, (goA (lk f) L q).2.map rn) ∧ OkN (goA (lk f) L q).2 := fun q L hq hL => by
   rw [renL_map]
   exact goA_ren (lk f) (lk f) q (fun T hT' L hL => ih T L hL (hq T hT')) L hL
  by_cases h13 : k = 13 ∧ aftV l = true
  ·
   rw [if_pos h13, if_pos h13, ren_len, cls_ren]
   have hcl : ∀ U ∈ clsV l, OkT U := fun U hU => kid U (by
    unfold clsV at hU
    rw [if_pos h13.2] at hU
    exact (List.dropLast_sublist _).subset hU)
   have hla : (renL l)[l.length - 1]? = (l[l.length - 1]?).map renV := by rw [renL_map, List.getElem?_map]
   rw [hla]
   cases hA : l[l.length - 1]? with
   | none => exact ⟨rfl, hL⟩
   | some A =>
    have hAl : OkT A := kid A (List.mem_of_getElem? hA)
    obtain ⟨ka, sa, na, bb, r⟩ := A
    match r, hAl with
    | [], _ => simp only [Option.map_some, renV, renL_map, List.map_nil]; exact ⟨trivial, hL⟩
    | [_], _ => simp only [Option.map_some, renV, renL_map, List.map_cons, List.map_nil]; exact ⟨trivial, hL⟩
    | X :: Y :: r, hAl =>
     have ⟨h1, h2⟩ := ih X L hL (ok_kid hAl (by simp))
     have ⟨h4, h5⟩ := hgo (clsV l) _ hcl h2
     have ⟨h6, h7⟩ := ih Y _ h5 (ok_kid hAl (by simp))
     simp only [Option.map_some, renV_mk, List.map_cons, renL_map (X :: Y :: r), h1]
     cases (lk f L X).1 with
     | true => exact ⟨rfl, h2⟩
     | false =>
      simp only [Bool.false_eq_true, if_false, h4]
      cases (goA (lk f) (lk f L X).2 (clsV l)).1 with
      | true => exact ⟨rfl, h5⟩
      | false =>
       simp only [Bool.false_eq_true, if_false, h6]
       exact ⟨trivial, h5⟩
  · rw [if_neg h13, if_neg h13]
    exact hgo l L kid hL
theorem pat_ren : ∀ l : List Tr, patL (renL l) = patL l
 | [] => by rw [renL_nil]
 | .mk k s n b l :: r => by
  rw [renL_cons, patL_cons, patL_cons, pat_ren l, pat_ren r]
  congr 2
  rw [renL_map, List.head?_map, opt_ren _ (isK_ren 1)]
theorem patV_ren (T : Tr) : patV (renV T) = patV T := by
 have := pat_ren [T]
 rw [renL_map] at this
 exact this
theorem bare_ren (T : Tr) : bareV (renV T) = bareV T := by
 obtain ⟨k, s, n, b, l⟩ := T
 unfold bareV renV
 dsimp only
 rw [ren_len]
 by_cases h : k = 3
 · subst h; rfl
 · rw [show rnS k s = s from if_neg h]
theorem val_ren (T : Tr) : valV (renV T) = valV T := by
 obtain ⟨k, s, n, b, l⟩ := T
 unfold valV renV
 dsimp only
 by_cases h : k = 3
 ·
  subst h
  rw [show rnS 3 s = rn s from rfl, rn_blank]
  have : isVarN (rn s) = isVarN s := by
   unfold rn
   split
   · rename_i e; subst e; decide +kernel
   · rfl
  rw [this]
  rfl
 · rw [show rnS k s = s from if_neg h]
theorem parts_ren (T : Tr) : partsV (renV T) = partsV T := by
 obtain ⟨k, s, n, b, l⟩ := T
 unfold partsV renV
 dsimp only
 rw [ren_len, cls_ren]
 simp only [renL_map, List.length_map, all_ren _ exV_ren, all_ren _ (isK_ren _), List.head?_map, List.getLast?_map, opt_ren _ exV_ren, opt_ren _ (isK_ren _), ← List.map_drop, ← List.map_dropLast, List.getElem?_map]
theorem mis_ren (T : Tr) : misV (renV T) = misV T := by unfold misV; rw [bare_ren, parts_ren, val_ren]
theorem uncV_ren (H : List (ByteArray × Int)) (T : Tr) : uncV H (renV T) = uncV H T := by
 obtain ⟨k, s, n, b, l⟩ := T
 unfold uncV renV
 dsimp only
 rw [ren_len]
 by_cases h : k = 11
 · rw [show rnS k s = s from if_neg (by omega)]
 · rw [show (k == 11) = false by simpa using h]; rfl
theorem nb_ren (T : Tr) : nbV (renV T) = nbV T := by
 obtain ⟨k, s, n, b, l⟩ := T
 unfold nbV renV
 dsimp only
 rw [ren_len]
 by_cases h : k = 17
 · rw [show rnS k s = s from if_neg (by omega)]
 · rw [show (k == 17) = false by simpa using h]; rfl
theorem pw_ren (T : Tr) : pwV (renV T) = pwV T := by
 obtain ⟨k, s, n, b, l⟩ := T
 unfold pwV renV
 dsimp only
 rw [renL_map, List.head?_map, opt_ren _ patV_ren]
theorem over_ren {T : Tr} (hT : OkT T) : overV (renV T) = overV T := by
 obtain ⟨k, s, n, b, l⟩ := T
 unfold overV renV
 dsimp only
 rw [ren_len]
 by_cases h : k = 17
 ·
  subst h
  have : (slotV (.mk 17 (rnS 17 s) n b (renL l))).length = (slotV (.mk 17 s n b l)).length := by
   unfold slotV
   dsimp only
   rw [if_pos rfl, if_pos rfl]
   have := sl_ren (L := []) (fun _ h => absurd h List.not_mem_nil) (fun U hU => hT U (by rw [preL_cons, preL_nil, List.append_nil]; exact List.mem_cons_of_mem _ hU))
   rw [show slL [] (renL l) = _ from this.1, List.length_map]
  rw [this]
 · simp only [if_neg h]
theorem tw_ren : ∀ (l : List Tr) (L : List ByteArray), OkN L → (∀ U ∈ l, nz U ∧ U.k = 3) → twL (L.map rn) (renL l) = twL L l
 | [], L, _, _ => by rw [renL_nil]; rfl
 | .mk k s n b q :: r, L, hL, h => by
  have h0 := h (.mk k s n b q) (by simp)
  have hk : k = 3 := h0.2
  subst hk
  have hs : s ≠ zV := h0.1 rfl
  have hr : ∀ U ∈ r, nz U ∧ U.k = 3 := fun U hU => h U (by simp [hU])
  have h1 := tw_ren r L hL hr
  have h2 := tw_ren r (L ++ [s]) (fun x hx => by
   rcases List.mem_append.1 hx with h | h
   · exact hL x h
   · rw [List.mem_singleton.1 h]; exact hs) hr
  rw [List.map_append, List.map_singleton] at h2
  rw [renL_cons, show rnS 3 s = rn s from rfl]
  unfold twL
  rw [rn_blank, new_ren hL hs, h1, h2]
theorem pt_ren {T : Tr} (hT : OkT T) (hm : misV T = false) : ptV (renV T) = ptV T := by
 obtain ⟨k, s, n, b, l⟩ := T
 unfold ptV renV
 dsimp only
 by_cases h : k = 17
 ·
  subst h
  have hp : partsV (.mk 17 s n b l) = true := by
   unfold misV at hm
   cases hx : partsV (.mk 17 s n b l) with
   | true => rfl
   | false => rw [hx] at hm; simp at hm
  have h3 : l.dropLast.all (isK 3) = true := by
   unfold partsV at hp
   simp at hp
   simpa using hp.1.2
  rw [ren_len, ← List.dropLast_eq_take, renL_map, ← List.map_take, ← List.dropLast_eq_take, ← renL_map]
  have := tw_ren l.dropLast [] (fun _ h => absurd h List.not_mem_nil) (fun U hU => by
   refine ⟨hT U ?_, ?_⟩
   · rw [preL_cons, preL_nil, List.append_nil]
     exact List.mem_cons_of_mem _ (mem_pre ((List.dropLast_sublist _).subset hU) U (by obtain ⟨k, s, n, b, l⟩ := U; rw [preL_cons]; simp))
   · have := List.all_eq_true.1 h3 U hU
     obtain ⟨k, s, n, b, l⟩ := U
     simpa [isK] using this)
  rw [show twL [] (renL l.dropLast) = twL [] l.dropLast from this]
 · rw [show (k == 17) = false by simpa using h]; rfl
theorem unb_ren {T : Tr} (hT : OkT T) : unbV (renV T) = unbV T := by
 obtain ⟨k, s, n, b, l⟩ := T
 unfold unbV renV
 dsimp only
 have ⟨h1, h2⟩ := putsT_ren l.dropLast [] (fun _ h => absurd h List.not_mem_nil) (fun U hU => ok_kid hT ((List.dropLast_sublist _).subset hU))
 rw [show renL l = l.map renV from renL_map l, ← List.map_dropLast, ← renL_map, List.getLast?_map, show putsT [] (renL l.dropLast) = (putsT [] l.dropLast).map rn from h1]
 cases hB : l.getLast? with
 | none => rfl
 | some B =>
  have ⟨h3, _⟩ := lk_ren 30000 B _ h2 (ok_kid hT (List.mem_of_getLast? hB))
  simp only [Option.map_some, Option.getD_some]
  rw [h3]
theorem hds_ren (l : List Tr) : (∀ U ∈ l, U.k ≠ 3) → ∀ L, hdsL L (renL l) = hdsL L l := by
 induction l with
 | nil => intro _ L; rw [renL_nil]
 | cons T l ih =>
  intro h L
  have h0 := h T (by simp)
  obtain ⟨k, s, n, b, q⟩ := T
  rw [renL_cons]
  show hdsL (putH L (hdT (.mk k (rnS k s) n b (renL q)))) (renL l) = hdsL (putH L (hdT (.mk k s n b q))) l
  rw [ih (fun U hU => h U (by simp [hU])), show rnS k s = s from if_neg h0]
  unfold hdT
  dsimp only
  rw [ren_len]
theorem any_map_in {p q : Tr → Bool} {l : List Tr} (h : ∀ U ∈ l, p (renV U) = q U) : (l.map renV).any p = l.any q := by
 induction l with
 | nil => rfl
 | cons T l ih => rw [List.map_cons, List.any_cons, List.any_cons, h T (by simp), ih (fun U hU => h U (by simp [hU]))]
/-- One variable by another name that nobody has. -/
theorem chk_ren {T : Tr} (hT : OkT T) : chkV (renV T) = chkV T := by
 have hpre : preL [renV T] = (preL [T]).map renV := by
  have := pre_ren [T]
  rw [renL_map] at this
  exact this
 have ok : ∀ U ∈ preL [T], OkT U := fun U hU => ok_sub hT hU
 have e1 : crowdV (renV T) = crowdV T := by unfold crowdV; rw [hpre, List.length_map]
 have e2 : (preL [renV T]).any misV = (preL [T]).any misV := by rw [hpre]; exact any_map_in fun U _ => mis_ren U
 have e3 : (preL [renV T]).any overV = (preL [T]).any overV := by rw [hpre]; exact any_map_in fun U hU => over_ren (ok U hU)
 have e5 : (preL [renV T]).any nbV = (preL [T]).any nbV := by rw [hpre]; exact any_map_in fun U _ => nb_ren U
 have e6 : (preL [renV T]).any pwV = (preL [T]).any pwV := by rw [hpre]; exact any_map_in fun U _ => pw_ren U
 have e7 : (preL [renV T]).any unbV = (preL [T]).any unbV := by rw [hpre]; exact any_map_in fun U hU => unb_ren (ok U hU)
 obtain ⟨k, s, n, b, l⟩ := T
 have e8 : ∀ H, (preL [renV (.mk k s n b l)]).any (uncV H) = (preL [Tr.mk k s n b l]).any (uncV H) := fun H => by rw [hpre]; exact any_map_in fun U _ => uncV_ren H U
 cases hm : (k != 18) || (preL [Tr.mk k s n b l]).any misV with
 | true =>
  unfold chkV
  unfold renV at e1 e2 ⊢
  dsimp only at e1 e2 ⊢
  rw [e1, e2, hm]
  simp
 | false =>
  rw [Bool.or_eq_false_iff] at hm
  have hk : k = 18 := by simpa using hm.1
  have hm' : ∀ U ∈ preL [Tr.mk k s n b l], misV U = false := fun U hU => by
   have := List.any_eq_false.1 hm.2 U hU
   simpa using this
  have e4 : (preL [renV (.mk k s n b l)]).any ptV = (preL [Tr.mk k s n b l]).any ptV := by rw [hpre]; exact any_map_in fun U hU => pt_ren (ok U hU) (hm' U hU)
  have h17 : ∀ U ∈ l, U.k ≠ 3 := fun U hU => by
   have h := hm' (.mk k s n b l) (by rw [preL_cons]; simp)
   have hp : partsV (.mk k s n b l) = true := by
    unfold misV at h
    cases hx : partsV (.mk k s n b l) with
    | true => rfl
    | false => rw [hx] at h; simp at h
   subst hk
   unfold partsV at hp
   simp at hp
   have := hp U hU
   obtain ⟨k, s, n, b, l⟩ := U
   have : k = 17 := by simpa [isK] using this
   show k ≠ 3
   omega
  have eh := hds_ren l h17 []
  unfold chkV
  unfold renV at e1 e2 e3 e4 e5 e6 e7 e8 ⊢
  dsimp only at e1 e2 e3 e4 e5 e6 e7 e8 ⊢
  rw [eh, ren_len, e1, e2, e3, e4, e5, e6, e7, e8]
end Go.Proofs.YtjedbfbolifjjaaGreatDoor

namespace Go.Proofs.YtjedbfbolifjjaaGreatDoor
open Go.RowKit Go.Maps
theorem hdsL_nod (l : List Tr) : ∀ L, (hdsL L l).length = L.length + l.length ↔ (∀ h ∈ l.map hdT, h ∉ L) ∧ (l.map hdT).Nodup := by
 induction l with
 | nil => intro L; simp [hdsL]
 | cons T l ih =>
  intro L
  have e : hdsL L (T :: l) = hdsL (putH L (hdT T)) l := rfl
  have hle := hdsL_len l L
  by_cases hT : hdT T ∈ L
  · have e2 : putH L (hdT T) = L := by unfold putH; rw [if_pos (inH_iff.2 hT)]
    rw [e, e2]
    refine ⟨fun h => ?_, fun h => absurd hT (h.1 _ (by simp))⟩
    rw [List.length_cons] at h; omega
  ·
   have e2 : putH L (hdT T) = L ++ [hdT T] := by unfold putH; rw [if_neg (fun h => hT (inH_iff.1 h))]
   rw [e, e2]
   have := ih (L ++ [hdT T])
   rw [List.length_append, List.length_singleton] at this
   rw [show L.length + (T :: l).length = L.length + 1 + l.length by rw [List.length_cons]; omega, this, List.map_cons, List.nodup_cons]
   constructor
   · rintro ⟨h1, h2⟩
     refine ⟨fun h hm => ?_, fun hm => (h1 _ hm) (by simp), h2⟩
     rcases List.mem_cons.1 hm with rfl | hm
     · exact hT
     · exact fun hL => h1 _ hm (by simp [hL])
   · rintro ⟨h1, h2, h3⟩
     refine ⟨fun h hm hL => ?_, h3⟩
     rcases List.mem_append.1 hL with hL | hL
     · exact h1 h (by simp [hm]) hL
     · exact h2 (by rw [← List.mem_singleton.1 hL]; exact hm)
theorem hdsL_mem (l : List Tr) : ∀ L h, h ∈ hdsL L l ↔ h ∈ L ∨ h ∈ l.map hdT := by
 induction l with
 | nil => intro L h; simp [hdsL]
 | cons T l ih =>
  intro L h
  rw [show hdsL L (T :: l) = hdsL (putH L (hdT T)) l from rfl, ih]
  unfold putH
  split
  ·
   rename_i hc
   have := inH_iff.1 hc
   simp only [List.map_cons, List.mem_cons]
   constructor
   · rintro (h | h)
     · exact .inl h
     · exact .inr (.inr h)
   · rintro (h | rfl | h)
     · exact .inl h
     · exact .inl this
     · exact .inr h
  · simp only [List.map_cons, List.mem_cons, List.mem_append, List.mem_singleton, List.not_mem_nil, or_false, or_assoc]
theorem bool_iff {a b : Bool} (h : a = true ↔ b = true) : a = b := by cases a <;> cases b <;> simp_all
theorem inH_perm {l l' : List Tr} (hp : l.Perm l') (h : ByteArray × Int) : inH (hdsL [] l) h = inH (hdsL [] l') h := by
 apply bool_iff
 rw [inH_iff, inH_iff, hdsL_mem, hdsL_mem, (hp.map hdT).mem_iff]
theorem hdsL_perm {l l' : List Tr} (hp : l.Perm l') : decide (((hdsL [] l).length : Int) < (l.length : Int)) = decide (((hdsL [] l').length : Int) < (l'.length : Int)) := by
 have key : ∀ l, decide (((hdsL [] l).length : Int) < (l.length : Int)) = true ↔ ¬ (l.map hdT).Nodup := fun l => by
  have h1 := hdsL_nod l []
  have h2 := hdsL_len l []
  simp only [List.length_nil, Nat.zero_add] at h1 h2
  rw [decide_eq_true_iff]
  constructor
  · intro h hn
    have := h1.2 ⟨fun _ _ => List.not_mem_nil, hn⟩
    omega
  · intro h
    have : (hdsL [] l).length ≠ l.length := fun e => h (h1.1 e).2
    omega
 apply bool_iff
 rw [key, key, (hp.map hdT).nodup_iff]
theorem pre_perm {l l' : List Tr} (hp : l.Perm l') : (preL l).Perm (preL l') := by
 induction hp with
 | nil => exact .refl _
 | @cons x a c _ ih =>
  rw [show x :: a = [x] ++ a from rfl, show x :: c = [x] ++ c from rfl, preL_app, preL_app]
  exact ih.append_left _
 | swap x y l =>
  rw [show y :: x :: l = [y] ++ ([x] ++ l) from rfl, show x :: y :: l = [x] ++ ([y] ++ l) from rfl, preL_app, preL_app, preL_app, preL_app, ← List.append_assoc, ← List.append_assoc]
  exact List.perm_append_comm.append_right _
 | trans _ _ h1 h2 => exact h1.trans h2
theorem any_perm {α : Type} {l l' : List α} (hp : l.Perm l') (p : α → Bool) : l.any p = l'.any p := by
 apply bool_iff
 simp only [List.any_eq_true]
 exact ⟨fun ⟨x, h, e⟩ => ⟨x, hp.mem_iff.1 h, e⟩, fun ⟨x, h, e⟩ => ⟨x, hp.mem_iff.2 h, e⟩⟩
theorem all_perm {α : Type} {l l' : List α} (hp : l.Perm l') (p : α → Bool) : l.all p = l'.all p := by
 apply bool_iff
 simp only [List.all_eq_true]
 exact ⟨fun h x hx => h x (hp.mem_iff.2 hx), fun h x hx => h x (hp.mem_iff.1 hx)⟩
theorem mis_perm {l l' : List Tr} (hp : l.Perm l') (s : ByteArray) (n : Int) (b : List Int) : misV (.mk 18 s n b l) = misV (.mk 18 s n b l') := by
 have h1 : bareV (.mk 18 s n b l) = bareV (.mk 18 s n b l') := by unfold bareV; dsimp only; rw [hp.length_eq]
 have h2 : partsV (.mk 18 s n b l) = partsV (.mk 18 s n b l') := by
  unfold partsV
  simp
  exact all_perm hp _
 unfold misV
 rw [h1, h2]
 rfl
/-- The order of functions plays no part. -/
theorem chk_perm {l l' : List Tr} (hp : l.Perm l') (s : ByteArray) (n : Int) (b : List Int) : chkV (.mk 18 s n b l) = chkV (.mk 18 s n b l') := by
 have hq := pre_perm hp
 have pc : ∀ l, preL [Tr.mk 18 s n b l] = Tr.mk 18 s n b l :: preL l := fun l => by rw [preL_cons, preL_nil, List.append_nil]
 have hl := hp.length_eq
 have ha : ∀ p : Tr → Bool, p (.mk 18 s n b l) = p (.mk 18 s n b l') → (preL [Tr.mk 18 s n b l]).any p = (preL [Tr.mk 18 s n b l']).any p := fun p h => by
  rw [pc, pc, List.any_cons, List.any_cons, h, any_perm hq]
 have e1 : crowdV (.mk 18 s n b l) = crowdV (.mk 18 s n b l') := by unfold crowdV; rw [pc, pc, List.length_cons, List.length_cons, hq.length_eq]
 have e2 := ha misV (mis_perm hp s n b)
 have e3 := ha overV (by unfold overV; dsimp only; rw [if_pos rfl, if_pos rfl, hl])
 have e4 := ha ptV rfl
 have e5 := ha nbV rfl
 have e6 := ha pwV rfl
 have e7 := ha unbV rfl
 have e8 : (preL [Tr.mk 18 s n b l]).any (uncV (hdsL [] l)) = (preL [Tr.mk 18 s n b l']).any (uncV (hdsL [] l')) := by
  have : uncV (hdsL [] l) = uncV (hdsL [] l') := by
   funext T
   obtain ⟨k, s, n, b, r⟩ := T
   unfold uncV
   dsimp only
   rw [inH_perm hp]
  rw [this]
  exact ha _ rfl
 unfold chkV
 dsimp only
 rw [e1, e2, e3, hdsL_perm hp, e4, e5, e6, e7, e8, inH_perm hp]
theorem chk_turn (l : List Tr) (k : Nat) (s : ByteArray) (n : Int) (b : List Int) : chkV (.mk 18 s n b (l.drop k ++ l.take k)) = chkV (.mk 18 s n b l) :=
 chk_perm (List.perm_append_comm.trans (by rw [List.take_append_drop])) s n b
end Go.Proofs.YtjedbfbolifjjaaGreatDoor
