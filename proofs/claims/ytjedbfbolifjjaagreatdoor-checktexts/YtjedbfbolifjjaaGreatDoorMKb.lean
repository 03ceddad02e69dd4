/-
  The texts and rows of a parsed tree are small (pure).
  What Parse answers of what Scan answers is as chapter 16 says (pure).
  The walk of CheckTexts.
-/
import Derived.Test.YtjedbfbolifjjaaGreatDoorMI
import Derived.Test.YtjedbfbolifjjaaGreatDoorPJ
set_option linter.unusedVariables false
set_option linter.unusedSimpArgs false
namespace Go.Proofs.YtjedbfbolifjjaaGreatDoor
section
variable {ts : List Tn} {B N : Nat}
def smT (B N : Nat) : Tr → Prop
 | .mk _ s _ _ l => s.size ≤ B ∧ l.length ≤ N
def SmL (B N : Nat) (l : List Tr) : Prop := ∀ U ∈ preL l, smT B N U
theorem sm_nil : SmL B N [] := fun U h => by rw [preL_nil] at h; cases h
theorem sm_app {a r : List Tr} (h1 : SmL B N a) (h2 : SmL B N r) : SmL B N (a ++ r) := fun U h => by
 rw [preL_app] at h
 rcases List.mem_append.1 h with h | h
 · exact h1 U h
 · exact h2 U h
theorem sm_node {k : Int} {s : ByteArray} {n : Int} {b : List Int} {l : List Tr} (hs : s.size ≤ B) (hl : l.length ≤ N) (h : SmL B N l) : SmL B N [.mk k s n b l] := fun U hU => by
 rw [preL_cons, preL_nil, List.append_nil] at hU
 rcases List.mem_cons.1 hU with rfl | hU
 · exact ⟨hs, hl⟩
 · exact h U hU
theorem sm_two {T U : Tr} (h1 : SmL B N [T]) (h2 : SmL B N [U]) : SmL B N [T, U] := sm_app (a := [T]) h1 h2
def SmR (B N : Nat) (g : Rule) : Prop := ∀ p, SmL B N [(g p).1]
def SmQ (B N M : Nat) (g : Ps → List Tr × Ps) : Prop := ∀ p, SmL B N (g p).1 ∧ (g p).1.length ≤ M
theorem e0_sz : e0.size ≤ B := Nat.zero_le _
theorem sm_tr0 : SmL B N [tr0] := sm_node e0_sz (Nat.zero_le _) sm_nil
theorem pk_sz (hT : ∀ t ∈ ts, t.s.size ≤ B) (p : Ps) : (pkT ts p).s.size ≤ B := by
 unfold pkT
 split
 · cases h : ts[p.i]? with
   | none => exact e0_sz
   | some t => exact hT t (List.mem_of_getElem? h)
 · exact e0_sz
theorem name_sz (hT : ∀ t ∈ ts, t.s.size ≤ B) (k : Int) (p : Ps) : (nameV ts k p).1.size ≤ B := by
 unfold nameV
 split
 · exact pk_sz hT p
 · exact e0_sz
theorem sevL_sm (s : ByteArray) {g : Rule} (hg : SmR B N g) : ∀ (f : Nat) (l : List Tr) (p : Ps), SmL B N l → SmL B N (sevL ts s g f l p).1 ∧ (sevL ts s g f l p).1.length ≤ l.length + f
 | 0, l, p, h => ⟨h, Nat.le_refl _⟩
 | f + 1, l, p, h => by
  rw [sevL]
  split
  · obtain ⟨h1, h2⟩ := sevL_sm s hg f (l ++ [(g p.next).1]) (g p.next).2 (sm_app h (hg _))
    refine ⟨h1, ?_⟩
    rw [List.length_append, List.length_singleton] at h2
    omega
  · exact ⟨h, Nat.le_add_right _ _⟩
theorem sev_sm (s : ByteArray) {g : Rule} (hg : SmR B N g) : SmQ B N (ts.length + 1) (sevV ts s g) := fun p => by
 obtain ⟨h1, h2⟩ := sevL_sm (ts := ts) s hg ts.length [(g p).1] (g p).2 (hg p)
 exact ⟨h1, by rw [List.length_singleton] at h2; show (sevL ts s g ts.length [(g p).1] (g p).2).1.length ≤ _; omega⟩
theorem upto_sm (en : ByteArray) {g : Rule} (hg : SmR B N g) : SmQ B N (ts.length + 1) (uptoV ts en g) := fun p => by
 unfold uptoV
 split
 · exact ⟨sm_nil, Nat.zero_le _⟩
 · exact sev_sm cma hg p
variable (hT : ∀ t ∈ ts, t.s.size ≤ B) (hN : 2 * ts.length + 9 ≤ N)
theorem var_sm (hT : ∀ t ∈ ts, t.s.size ≤ B) : SmR B N (varV ts) := fun p => sm_node (name_sz hT 3 p) (Nat.zero_le _) sm_nil
theorem arrow_sm (hN : 2 * ts.length + 9 ≤ N) {ex : Rule} (hx : SmR B N ex) : SmR B N (arrowV ts ex) := fun p => by
 obtain ⟨h1, h2⟩ := sev_sm (ts := ts) cma hx (wantV ts arw p)
 exact sm_node e0_sz (by omega) h1
theorem deeper_sm {g : Rule} (hg : SmR B N g) : SmR B N (deeperV g) := fun p => by
 unfold deeperV
 split
 · exact sm_tr0
 · exact hg _
theorem clause_sm (hN : 2 * ts.length + 9 ≤ N) {ex un : Rule} (hx : SmR B N ex) (hu : SmR B N un) : SmR B N (clauseV ts ex un) := fun p =>
 sm_node e0_sz (show 2 ≤ N by omega) (sm_two (hu p) (arrow_sm hN hx _))
theorem choice_sm (hN : 2 * ts.length + 9 ≤ N) {ex un : Rule} (hx : SmR B N ex) (hu : SmR B N un) : SmR B N (choiceV ts ex un) := fun p => by
 obtain ⟨h1, h2⟩ := sev_sm (ts := ts) sem (clause_sm hN hx hu) (wantV ts wOf (ex p).2)
 refine sm_node e0_sz ?_ (sm_app (hx p) h1)
 rw [List.length_append, List.length_singleton]
 omega
theorem recv_sm (hN : 2 * ts.length + 9 ≤ N) {ex un : Rule} (hx : SmR B N ex) (hu : SmR B N un) : SmR B N (recvV ts ex un) := fun p => by
 have hc : SmL B N (rclV ts ex un p).1 ∧ (rclV ts ex un p).1.length ≤ ts.length + 1 := by
  unfold rclV
  split
  · exact ⟨sm_nil, Nat.zero_le _⟩
  · exact sev_sm sem (clause_sm hN hx hu) p
 generalize hq : rclV ts ex un p = q at hc
 have hr : SmL B N (raftV ts ex q).1 ∧ (raftV ts ex q).1.length ≤ ts.length + 2 := by
  unfold raftV
  split
  · refine ⟨sm_app hc.1 (sm_node e0_sz (show 2 ≤ N by omega) (sm_two (hx _) (arrow_sm hN hx _))), ?_⟩
    show (q.1 ++ [_]).length ≤ _
    rw [List.length_append, List.length_singleton]
    omega
  · exact ⟨hc.1, by omega⟩
 unfold recvV
 rw [hq]
 exact sm_node e0_sz (by omega) hr.1
theorem row_sm (hN : 2 * ts.length + 9 ≤ N) {ex : Rule} (hx : SmR B N ex) (k : Int) (en nm : ByteArray) (hs : nm.size ≤ B) (p : Ps) : SmL B N [.mk k nm 0 [] (uptoV ts en ex p).1] := by
 obtain ⟨h1, h2⟩ := upto_sm (ts := ts) en hx p
 exact sm_node hs (by omega) h1
theorem atom_sm (hT : ∀ t ∈ ts, t.s.size ≤ B) (hN : 2 * ts.length + 9 ≤ N) {ex : Rule} (hx : SmR B N ex) : SmR B N (atomV ts ex) := fun p => by
 unfold atomV
 split
 · exact deeper_sm (g := callV ts (nameV ts 2 p).1 ex) (fun q => row_sm hN hx 11 shutR _ (name_sz hT 2 p) q) _
 · exact sm_node (name_sz hT 2 p) (Nat.zero_le _) sm_nil
theorem nest_sm (hN : 2 * ts.length + 9 ≤ N) {ex un : Rule} (hx : SmR B N ex) (hu : SmR B N un) : SmR B N (nestV ts ex un) := fun p => by
 unfold nestV
 split
 · exact deeper_sm (g := bracketV ts ex) (fun q => hx q) _
 split
 · exact deeper_sm (g := tupleV ts ex) (fun q => row_sm hN hx 5 shut5 _ e0_sz q) _
 split
 · exact deeper_sm (g := listV ts ex) (fun q => row_sm hN hx 6 shut6 _ e0_sz q) _
 split
 · exact deeper_sm (choice_sm hN hx hu) _
 split
 · exact deeper_sm (recv_sm hN hx hu) _
 · exact sm_tr0
theorem prim_sm (hT : ∀ t ∈ ts, t.s.size ≤ B) (hN : 2 * ts.length + 9 ≤ N) {ex un : Rule} (hx : SmR B N ex) (hu : SmR B N un) : SmR B N (primV ts ex un) := fun p => by
 unfold primV
 split
 · exact sm_node e0_sz (Nat.zero_le _) sm_nil
 split
 · exact sm_node e0_sz (Nat.zero_le _) sm_nil
 split
 · exact var_sm hT p
 split
 · exact atom_sm hT hN hx p
 · exact nest_sm hN hx hu p
theorem unary_sm (hT : ∀ t ∈ ts, t.s.size ≤ B) (hN : 2 * ts.length + 9 ≤ N) {ex un : Rule} (hx : SmR B N ex) (hu : SmR B N un) : SmR B N (unaryV ts ex un) := fun p => by
 unfold unaryV
 split
 · exact sm_node e0_sz (show 1 ≤ N by omega) (deeper_sm hu p)
 · exact prim_sm hT hN hx hu p
theorem joinL_sm (hT : ∀ t ∈ ts, t.s.size ≤ B) (hN : 2 * ts.length + 9 ≤ N) {g : Rule} (hg : SmR B N g) (sg : List ByteArray) : ∀ (f : Nat) (t : Tr) (p : Ps), SmL B N [t] → SmL B N [(joinL ts sg g f t p).1]
 | 0, t, p, h => h
 | f + 1, t, p, h => by
  rw [joinL]
  split
  · exact joinL_sm hT hN hg sg f _ _ (sm_node (pk_sz hT p) (show 2 ≤ N by omega) (sm_two h (hg _)))
  · exact h
theorem join_sm (hT : ∀ t ∈ ts, t.s.size ≤ B) (hN : 2 * ts.length + 9 ≤ N) {g : Rule} (hg : SmR B N g) (sg : List ByteArray) (f : Nat) : SmR B N (joinV ts sg g f) := fun p => joinL_sm hT hN hg sg f _ _ (hg p)
theorem expr_sm (hN : 2 * ts.length + 9 ≤ N) {ex jn : Rule} (hx : SmR B N ex) (hj : SmR B N jn) : SmR B N (exprV ts ex jn) := fun p => by
 unfold exprV
 split
 · exact sm_node e0_sz (show 2 ≤ N by omega) (sm_two (hj p) (deeper_sm hx _))
 split
 · exact sm_node e0_sz (show 2 ≤ N by omega) (sm_two (hj p) (deeper_sm hx _))
 · exact hj p
theorem exun_sm (hT : ∀ t ∈ ts, t.s.size ≤ B) (hN : 2 * ts.length + 9 ≤ N) : ∀ m, SmR B N (exun ts m).1 ∧ SmR B N (exun ts m).2
 | 0 => ⟨fun _ => sm_tr0, fun _ => sm_tr0⟩
 | m + 1 => by
  obtain ⟨h1, h2⟩ := exun_sm hT hN m
  have hu := unary_sm hT hN h1 h2
  exact ⟨expr_sm hN h1 (join_sm hT hN (join_sm hT hN (join_sm hT hN hu _ _) _ _) _ _), hu⟩
theorem fun_sm (hT : ∀ t ∈ ts, t.s.size ≤ B) (hN : 2 * ts.length + 9 ≤ N) {ex : Rule} (hx : SmR B N ex) : SmR B N (funV ts ex) := fun p => by
 obtain ⟨h1, h2⟩ := upto_sm (ts := ts) shutR (var_sm (ts := ts) (N := N) hT) (wantV ts opn (nameV ts 2 p).2)
 refine sm_node (name_sz hT 2 p) ?_ (sm_app h1 (arrow_sm hN hx _))
 show ((uptoV ts shutR (varV ts) (wantV ts opn (nameV ts 2 p).2)).1 ++ [_]).length ≤ N
 rw [List.length_append, List.length_singleton]
 omega
theorem progL_sm (hT : ∀ t ∈ ts, t.s.size ≤ B) (hN : 2 * ts.length + 9 ≤ N) {ex : Rule} (hx : SmR B N ex) : ∀ (f : Nat) (l : List Tr) (p : Ps), SmL B N l → SmL B N (progL ts ex f l p).1 ∧ (progL ts ex f l p).1.length ≤ l.length + f
 | 0, l, p, h => ⟨h, Nat.le_refl _⟩
 | f + 1, l, p, h => by
  rw [progL]
  split
  · obtain ⟨h1, h2⟩ := progL_sm hT hN hx f (l ++ [(funV ts ex p).1]) (funV ts ex p).2 (sm_app h (fun_sm hT hN hx p))
    refine ⟨h1, ?_⟩
    rw [List.length_append, List.length_singleton] at h2
    omega
  · exact ⟨h, Nat.le_add_right _ _⟩
theorem parse_sm (hT : ∀ t ∈ ts, t.s.size ≤ B) {T : Tr} (h : parseV ts = .ok T) : SmL B (2 * ts.length + 9) [T] := by
 unfold parseV at h
 split at h
 · cases h
 ·
  cases h
  obtain ⟨h1, h2⟩ := progL_sm hT (Nat.le_refl _) (exun_sm hT (Nat.le_refl _) 41).1 (2 * ts.length + 1) [] ⟨0, 0, 0⟩ sm_nil
  refine sm_node e0_sz ?_ h1
  rw [List.length_nil] at h2
  show (progL ts (exun ts 41).1 (2 * ts.length + 1) [] ⟨0, 0, 0⟩).1.length ≤ _
  omega
end
/-- A text's tree is small. -/
theorem text_szs {s : ByteArray} {T : Tr} (h : textV s = .ok T) : Szs [T] := by
 unfold textV at h
 cases hv : scanV s with
 | error p => rw [hv] at h; cases h
 | ok l =>
  rw [hv] at h
  obtain ⟨h1, h2⟩ := scanV_all hv
  have := parse_sm (B := 60) (ts := l.map tnOf) (fun t ht => by obtain ⟨u, hu, rfl⟩ := List.mem_map.1 ht; exact (h1 u hu).1) h
  intro U hU
  obtain ⟨k, s', n, b, q⟩ := U
  have h3 := this _ hU
  rw [List.length_map] at h3
  exact ⟨by have := h3.1; omega, by have := h3.2; omega⟩
end Go.Proofs.YtjedbfbolifjjaaGreatDoor

namespace Go.Proofs.YtjedbfbolifjjaaGreatDoor
open Go.RowKit Go.Maps
section
variable {ts : List Tn} {p : Ps}
/-- Is a part as it ought to be, but for how many bytes it has? -/
def okP (T : Tr) : Bool := bareV T && (partsV T && (valV T || isK 4 T))
def OkL (l : List Tr) : Prop := ∀ U ∈ preL l, okP U = true
theorem ok_nil : OkL [] := fun U h => by rw [preL_nil] at h; cases h
theorem ok_app {a r : List Tr} (h1 : OkL a) (h2 : OkL r) : OkL (a ++ r) := fun U h => by
 rw [preL_app] at h
 rcases List.mem_append.1 h with h | h
 · exact h1 U h
 · exact h2 U h
theorem ok_node {k : Int} {s : ByteArray} {n : Int} {b : List Int} {l : List Tr} (h0 : okP (.mk k s n b l) = true) (h : OkL l) : OkL [.mk k s n b l] := fun U hU => by
 rw [preL_cons, preL_nil, List.append_nil] at hU
 rcases List.mem_cons.1 hU with rfl | hU
 · exact h0
 · exact h U hU
theorem ok_two {T U : Tr} (h1 : OkL [T]) (h2 : OkL [U]) : OkL [T, U] := ok_app (a := [T]) h1 h2
/-- Tokens as Scan tells them. -/
def TkR (ts : List Tn) : Prop := ∀ t ∈ ts, (t.k = 1 → 0 ≤ t.n ∧ t.n ≤ 4611686018427387903) ∧ (t.k = 2 → (isName t.s && !wrd t.s) = true) ∧ (t.k = 3 → ((t.s.toList == [95]) || isVarN t.s) = true)
def SpR (q : Tr → Bool) (g : Rule) : Prop := ∀ p, (g p).2.e = 0 → p.e = 0 ∧ q (g p).1 = true ∧ OkL [(g p).1]
def SpL (q : Tr → Bool) (g : Ps → List Tr × Ps) : Prop := ∀ p, (g p).2.e = 0 → p.e = 0 ∧ (g p).1.all q = true ∧ OkL (g p).1
theorem fl_no {c : Int} (hc : c ≠ 0) (h : (failV c p).e = 0) : False := by
 unfold failV at h
 by_cases he : p.e = 0
 · rw [if_pos he] at h; exact hc h
 · rw [if_neg he] at h; exact he h
theorem pk_in (h : (pkT ts p).k ≠ 0) : p.e = 0 ∧ ts[p.i]? = some (pkT ts p) := by
 by_cases he : p.e = 0
 · refine ⟨he, ?_⟩
   rw [pkT, if_pos he] at h ⊢
   cases hq : ts[p.i]? with
   | none => rw [hq] at h; exact absurd rfl h
   | some t => rfl
 · rw [pkT, if_neg he] at h; exact absurd rfl h
theorem is_e {s : ByteArray} (h : isV ts p s = true) : p.e = 0 := by
 have hk : (pkT ts p).k = 5 ∨ (pkT ts p).k = 6 := by
  unfold isV at h
  simp only [Bool.and_eq_true, Bool.or_eq_true, beq_iff_eq] at h
  exact h.1
 exact (pk_in (by rcases hk with e | e <;> rw [e] <;> decide)).1
theorem want_e {s : ByteArray} (h : (wantV ts s p).e = 0) : p.e = 0 := by
 unfold wantV at h
 by_cases hs : isV ts p s = true
 · exact is_e hs
 · rw [if_neg hs] at h; exact (fl_no (by decide) h).elim
theorem name_e {k : Int} (hk : k = 2 ∨ k = 3) (h : (nameV ts k p).2.e = 0) : p.e = 0 ∧ (pkT ts p).k = k ∧ (nameV ts k p).1 = (pkT ts p).s := by
 unfold nameV at h ⊢
 by_cases hs : (pkT ts p).k = k
 · rw [if_pos hs]
   exact ⟨(pk_in (by rw [hs]; rcases hk with e | e <;> rw [e] <;> decide)).1, hs, rfl⟩
 · rw [if_neg hs] at h; exact (fl_no (by decide) h).elim
theorem pk_mem (h : (pkT ts p).k ≠ 0) : pkT ts p ∈ ts := List.mem_of_getElem? (pk_in h).2
theorem sevL_e (s : ByteArray) {g : Rule} : ∀ (f : Nat) (l : List Tr) (p : Ps), (sevL ts s g f l p).2.e = 0 → p.e = 0
 | 0, l, p, h => h
 | f + 1, l, p, h => by
  rw [sevL] at h
  by_cases hs : isV ts p s = true
  · exact is_e hs
  · rw [if_neg hs] at h; exact h
theorem sevL_sp {q : Tr → Bool} (s : ByteArray) {g : Rule} (hg : SpR q g) : ∀ (f : Nat) (l : List Tr) (p : Ps), l.all q = true → OkL l → (sevL ts s g f l p).2.e = 0 → (sevL ts s g f l p).1.all q = true ∧ OkL (sevL ts s g f l p).1 ∧ l.length ≤ (sevL ts s g f l p).1.length
 | 0, l, p, h1, h2, h => ⟨h1, h2, Nat.le_refl _⟩
 | f + 1, l, p, h1, h2, h => by
  rw [sevL] at h ⊢
  by_cases hs : isV ts p s = true
  · rw [if_pos hs] at h ⊢
    obtain ⟨k1, k2, k3⟩ := hg p.next (sevL_e s f _ _ h)
    obtain ⟨m1, m2, m3⟩ := sevL_sp s hg f (l ++ [(g p.next).1]) _ (by rw [List.all_append, h1]; simp [k2]) (ok_app h2 k3) h
    exact ⟨m1, m2, by rw [List.length_append] at m3; omega⟩
  · rw [if_neg hs] at h ⊢
    exact ⟨h1, h2, Nat.le_refl _⟩
theorem sev_sp {q : Tr → Bool} (s : ByteArray) {g : Rule} (hg : SpR q g) (p : Ps) (h : (sevV ts s g p).2.e = 0) : p.e = 0 ∧ (sevV ts s g p).1.all q = true ∧ OkL (sevV ts s g p).1 ∧ 1 ≤ (sevV ts s g p).1.length := by
 unfold sevV at h ⊢
 obtain ⟨k1, k2, k3⟩ := hg p (sevL_e s _ _ _ h)
 obtain ⟨m1, m2, m3⟩ := sevL_sp s hg ts.length [(g p).1] _ (by simp [k2]) k3 h
 exact ⟨k1, m1, m2, m3⟩
theorem upto_sp {q : Tr → Bool} (en : ByteArray) {g : Rule} (hg : SpR q g) : SpL q (uptoV ts en g) := by
 intro p h
 unfold uptoV at h ⊢
 by_cases hs : isV ts p en = true
 · rw [if_pos hs]
   exact ⟨is_e hs, rfl, ok_nil⟩
 · rw [if_neg hs] at h ⊢
   have h' : (wantV ts en (sevV ts cma g p).2).e = 0 := h
   obtain ⟨k1, k2, k3, _⟩ := sev_sp cma hg p (want_e h')
   exact ⟨k1, k2, k3⟩
theorem arrow_sp {ex : Rule} (hx : SpR exV ex) : SpR (isK 16) (arrowV ts ex) := by
 intro p h
 have h' : (sevV ts cma ex (wantV ts arw p)).2.e = 0 := h
 obtain ⟨k1, k2, k3, k4⟩ := sev_sp cma hx _ h'
 refine ⟨want_e k1, rfl, ok_node ?_ k3⟩
 generalize (sevV ts cma ex (wantV ts arw p)).1 = l at k2 k4
 simp [okP, bareV, partsV, valV, zB, zL, k2]
 exact k4
theorem var_sp (hR : TkR ts) : SpR (isK 3) (varV ts) := by
 intro p h
 have h' : (nameV ts 3 p).2.e = 0 := h
 obtain ⟨h1, h2, h3⟩ := name_e (.inr rfl) h'
 refine ⟨h1, rfl, ok_node ?_ ok_nil⟩
 have := (hR _ (pk_mem (by rw [h2]; decide))).2.2 h2
 rw [h3]
 simp only [okP, bareV, partsV, valV, zB, zL, isK]
 simpa using this
theorem deeper_sp {q : Tr → Bool} {g : Rule} (hg : SpR q g) (p : Ps) (hp : p.e = 0) (h : (deeperV g p).2.e = 0) : q (deeperV g p).1 = true ∧ OkL [(deeperV g p).1] := by
 unfold deeperV at h ⊢
 by_cases hd : p.d = 40
 · rw [if_pos hd] at h
   exact (fl_no (c := 161) (by decide) h).elim
 · rw [if_neg hd] at h ⊢
   have h' : (g p.deep).2.e = 0 := h
   exact ⟨(hg _ h').2.1, (hg _ h').2.2⟩
theorem clause_sp {ex un : Rule} (hx : SpR exV ex) (hu : SpR exV un) : SpR (isK 15) (clauseV ts ex un) := by
 intro p h
 have h' : (arrowV ts ex (un p).2).2.e = 0 := h
 obtain ⟨k1, k2, k3⟩ := arrow_sp hx _ h'
 obtain ⟨m1, m2, m3⟩ := hu p k1
 refine ⟨m1, rfl, ok_node ?_ (ok_two m3 k3)⟩
 generalize (arrowV ts ex (un p).2).1 = A at k2
 generalize (un p).1 = B at m2
 simp [okP, bareV, partsV, valV, zB, zL, k2, m2]
theorem bracket_sp {ex : Rule} (hx : SpR exV ex) : SpR exV (bracketV ts ex) := by
 intro p h
 have h' : (wantV ts shutR (ex p).2).e = 0 := h
 exact hx p (want_e h')
theorem row_sp {ex : Rule} (hx : SpR exV ex) (k : Int) (hk : k = 5 ∨ k = 6) (en : ByteArray) : SpR exV (fun p => (.mk k e0 0 [] (uptoV ts en ex p).1, (uptoV ts en ex p).2)) := by
 intro p h
 obtain ⟨m1, m2, m3⟩ := upto_sp en hx p h
 refine ⟨m1, by rcases hk with rfl | rfl <;> rfl, ok_node ?_ m3⟩
 generalize (uptoV ts en ex p).1 = l at m2
 rcases hk with rfl | rfl <;> simp [okP, bareV, partsV, valV, zB, zL, m2]
theorem choice_sp {ex un : Rule} (hx : SpR exV ex) (hu : SpR exV un) : SpR exV (choiceV ts ex un) := by
 intro p h
 have h' : (wantV ts wEnd (sevV ts sem (clauseV ts ex un) (wantV ts wOf (ex p).2)).2).e = 0 := h
 obtain ⟨b1, b2, b3, b4⟩ := sev_sp sem (clause_sp hx hu) _ (want_e h')
 obtain ⟨m1, m2, m3⟩ := hx p (want_e b1)
 refine ⟨m1, rfl, ok_node ?_ (ok_app m3 b3)⟩
 generalize (sevV ts sem (clauseV ts ex un) (wantV ts wOf (ex p).2)).1 = l at b2 b4
 generalize (ex p).1 = A at m2
 simp [okP, bareV, partsV, valV, zB, zL, b2, m2]
 exact b4
theorem raft_sp {ex un : Rule} (hx : SpR exV ex) (hu : SpR exV un) (p : Ps) (h : (raftV ts ex (rclV ts ex un p)).2.e = 0) :
 p.e = 0 ∧ OkL (raftV ts ex (rclV ts ex un p)).1 ∧ 1 ≤ (raftV ts ex (rclV ts ex un p)).1.length ∧ (clsV (raftV ts ex (rclV ts ex un p)).1).all (isK 15) = true := by
 have hcl : ∀ q, q = rclV ts ex un p → q.2.e = 0 → p.e = 0 ∧ q.1.all (isK 15) = true ∧ OkL q.1 ∧ (isV ts p wAft = true ∧ q.2 = p ∨ 1 ≤ q.1.length) := by
  intro q hq he
  subst hq
  unfold rclV at he ⊢
  by_cases hs : isV ts p wAft = true
  · rw [if_pos hs]
    exact ⟨is_e hs, rfl, ok_nil, .inl ⟨hs, rfl⟩⟩
  · rw [if_neg hs] at he ⊢
    obtain ⟨a, b, c, d⟩ := sev_sp sem (clause_sp hx hu) p he
    exact ⟨a, b, c, .inr d⟩
 generalize hq : rclV ts ex un p = q at h ⊢
 unfold raftV at h ⊢
 by_cases hs : isV ts q.2 wAft = true
 ·
  rw [if_pos hs] at h ⊢
  have h' : (arrowV ts ex (ex q.2.next).2).2.e = 0 := h
  obtain ⟨k1, k2, k3⟩ := arrow_sp hx _ h'
  obtain ⟨m1, m2, m3⟩ := hx _ k1
  obtain ⟨b1, b2, b3, b4⟩ := hcl q hq.symm (is_e hs)
  refine ⟨b1, ok_app b3 (ok_node ?_ (ok_two m3 k3)), ?_, ?_⟩
  · generalize (arrowV ts ex (ex q.2.next).2).1 = A at k2
    generalize (ex q.2.next).1 = B at m2
    simp [okP, bareV, partsV, valV, zB, zL, k2, m2]
  · simp
  · simp only [clsV, aftV, List.getLast?_append, List.getLast?_singleton, Option.some_or, Option.map_some, Option.getD_some, isK]
    simpa using b2
 ·
  rw [if_neg hs] at h ⊢
  obtain ⟨b1, b2, b3, b4⟩ := hcl q hq.symm h
  have hlen : 1 ≤ q.1.length := by
   rcases b4 with ⟨h1, h2⟩ | h
   · rw [h2] at hs; exact absurd h1 hs
   · exact h
  refine ⟨b1, b3, hlen, ?_⟩
  unfold clsV
  split
  · rw [List.all_eq_true] at b2 ⊢
    exact fun U hU => b2 U ((List.dropLast_sublist _).subset hU)
  · exact b2
theorem recv_sp {ex un : Rule} (hx : SpR exV ex) (hu : SpR exV un) : SpR exV (recvV ts ex un) := by
 intro p h
 have h' : (wantV ts wEnd (raftV ts ex (rclV ts ex un p)).2).e = 0 := h
 obtain ⟨b1, b2, b3, b4⟩ := raft_sp hx hu p (want_e h')
 refine ⟨b1, rfl, ok_node ?_ b2⟩
 generalize (raftV ts ex (rclV ts ex un p)).1 = l at b3 b4
 simp [okP, bareV, partsV, valV, zB, zL, b4]
 exact b3
theorem atom_sp (hR : TkR ts) {ex : Rule} (hx : SpR exV ex) : SpR exV (atomV ts ex) := by
 intro p h
 unfold atomV at h ⊢
 by_cases hs : isV ts (nameV ts 2 p).2 opn = true
 ·
  rw [if_pos hs] at h ⊢
  have he := is_e hs
  obtain ⟨n1, n2, n3⟩ := name_e (.inl rfl) he
  have hnm := (hR _ (pk_mem (by rw [n2]; decide))).2.1 n2
  rw [← n3] at hnm
  generalize (nameV ts 2 p).1 = nm at h hnm ⊢
  have hcall : SpR exV (callV ts nm ex) := fun q hq => by
   obtain ⟨a, b, c⟩ := upto_sp shutR hx q hq
   refine ⟨a, rfl, ok_node ?_ c⟩
   simp only [okP, bareV, partsV, valV, zB, zL, b, isK]
   simpa using hnm
  exact ⟨n1, deeper_sp hcall _ he h⟩
 ·
  rw [if_neg hs] at h ⊢
  have h' : (nameV ts 2 p).2.e = 0 := h
  obtain ⟨n1, n2, n3⟩ := name_e (.inl rfl) h'
  have hnm := (hR _ (pk_mem (by rw [n2]; decide))).2.1 n2
  rw [← n3] at hnm
  generalize (nameV ts 2 p).1 = nm at hnm ⊢
  refine ⟨n1, rfl, ok_node ?_ ok_nil⟩
  simp only [okP, bareV, partsV, valV, zB, zL, isK]
  simpa using hnm
theorem nest_sp {ex un : Rule} (hx : SpR exV ex) (hu : SpR exV un) : SpR exV (nestV ts ex un) := by
 intro p h
 have key : ∀ (s : ByteArray) (g : Rule), SpR exV g → isV ts p s = true → (deeperV g p).2.e = 0 → p.e = 0 ∧ exV (deeperV g p).1 = true ∧ OkL [(deeperV g p).1] :=
  fun s g hg hs he => ⟨is_e hs, deeper_sp hg p (is_e hs) he⟩
 unfold nestV at h ⊢
 by_cases q0 : isV ts p opn = true
 · rw [if_pos q0] at h ⊢; exact key _ _ (bracket_sp hx) q0 h
 rw [if_neg q0] at h ⊢
 by_cases q1 : isV ts p opn5 = true
 · rw [if_pos q1] at h ⊢; exact key _ _ (row_sp hx 5 (.inl rfl) shut5) q1 h
 rw [if_neg q1] at h ⊢
 by_cases q2 : isV ts p opn6 = true
 · rw [if_pos q2] at h ⊢; exact key _ _ (row_sp hx 6 (.inr rfl) shut6) q2 h
 rw [if_neg q2] at h ⊢
 by_cases q3 : isV ts p wCase = true
 · rw [if_pos q3] at h ⊢; exact key _ _ (choice_sp hx hu) q3 h
 rw [if_neg q3] at h ⊢
 by_cases q4 : isV ts p wRecv = true
 · rw [if_pos q4] at h ⊢; exact key _ _ (recv_sp hx hu) q4 h
 rw [if_neg q4] at h
 exact (fl_no (c := 160) (by decide) h).elim
theorem prim_sp (hR : TkR ts) {ex un : Rule} (hx : SpR exV ex) (hu : SpR exV un) : SpR exV (primV ts ex un) := by
 intro p h
 unfold primV at h ⊢
 by_cases k1 : (pkT ts p).k = 1
 ·
  rw [if_pos k1]
  have h0 : (pkT ts p).k ≠ 0 := by rw [k1]; decide
  have hn := (hR _ (pk_mem h0)).1 k1
  refine ⟨(pk_in h0).1, rfl, ok_node ?_ ok_nil⟩
  simp only [okP, bareV, partsV, valV, zB, zL, isK]
  simpa using hn
 rw [if_neg k1] at h ⊢
 by_cases k4 : (pkT ts p).k = 4
 · rw [if_pos k4]
   have h0 : (pkT ts p).k ≠ 0 := by rw [k4]; decide
   refine ⟨(pk_in h0).1, rfl, ok_node ?_ ok_nil⟩
   simp [okP, bareV, partsV, valV, zB, zL, isK]
 rw [if_neg k4] at h ⊢
 by_cases k3 : (pkT ts p).k = 3
 · rw [if_pos k3] at h ⊢
   obtain ⟨a, b, c⟩ := var_sp hR p h
   exact ⟨a, rfl, c⟩
 rw [if_neg k3] at h ⊢
 by_cases k2 : (pkT ts p).k = 2
 · rw [if_pos k2] at h ⊢; exact atom_sp hR hx p h
 rw [if_neg k2] at h ⊢
 exact nest_sp hx hu p h
theorem unary_sp (hR : TkR ts) {ex un : Rule} (hx : SpR exV ex) (hu : SpR exV un) : SpR exV (unaryV ts ex un) := by
 intro p h
 unfold unaryV at h ⊢
 by_cases hs : isV ts p mns = true
 ·
  rw [if_pos hs] at h ⊢
  have h' : (deeperV un p).2.e = 0 := h
  obtain ⟨k1, k2⟩ := deeper_sp hu p (is_e hs) h'
  refine ⟨is_e hs, rfl, ok_node ?_ k2⟩
  generalize (deeperV un p).1 = A at k1
  simp [okP, bareV, partsV, valV, zB, zL, k1]
 · rw [if_neg hs] at h ⊢
   exact prim_sp hR hx hu p h
def SgB (sg : List ByteArray) : Prop := ∀ s ∈ sg, ∀ t : ByteArray, t.toList = s.toList → binS t = true
theorem joinL_e {g : Rule} (hg : ∀ p, (g p).2.e = 0 → p.e = 0) (sg : List ByteArray) : ∀ (f : Nat) (t : Tr) (p : Ps), (joinL ts sg g f t p).2.e = 0 → p.e = 0
 | 0, t, p, h => h
 | f + 1, t, p, h => by
  rw [joinL] at h
  by_cases hs : sg.any (isV ts p) = true
  · obtain ⟨s, _, h2⟩ := List.any_eq_true.1 hs
    exact is_e h2
  · rw [if_neg hs] at h; exact h
theorem joinL_sp {g : Rule} (hg : SpR exV g) (sg : List ByteArray) (hsg : SgB sg) : ∀ (f : Nat) (t : Tr) (p : Ps), exV t = true → OkL [t] → (joinL ts sg g f t p).2.e = 0 → exV (joinL ts sg g f t p).1 = true ∧ OkL [(joinL ts sg g f t p).1]
 | 0, t, p, h1, h2, h => ⟨h1, h2⟩
 | f + 1, t, p, h1, h2, h => by
  rw [joinL] at h ⊢
  by_cases hs : sg.any (isV ts p) = true
  ·
   rw [if_pos hs] at h ⊢
   obtain ⟨k1, k2, k3⟩ := hg p.next (joinL_e (fun p h => (hg p h).1) sg f _ _ h)
   obtain ⟨s, m1, m2⟩ := List.any_eq_true.1 hs
   have hb : binS (pkT ts p).s = true := hsg s m1 _ (by
    unfold isV at m2
    simp only [Bool.and_eq_true, beq_iff_eq] at m2
    exact m2.2)
   refine joinL_sp hg sg hsg f _ _ rfl (ok_node ?_ (ok_two h2 k3)) h
   generalize (g p.next).1 = A at k2
   simp [okP, bareV, partsV, valV, zB, zL, h1, k2, hb]
  · rw [if_neg hs]
    exact ⟨h1, h2⟩
theorem join_sp {g : Rule} (hg : SpR exV g) (sg : List ByteArray) (hsg : SgB sg) (f : Nat) : SpR exV (joinV ts sg g f) := fun p h => by
 unfold joinV at h ⊢
 obtain ⟨k1, k2, k3⟩ := hg p (joinL_e (fun p h => (hg p h).1) sg f _ _ h)
 exact ⟨k1, joinL_sp hg sg hsg f _ _ k2 k3 h⟩
theorem expr_sp {ex jn : Rule} (hx : SpR exV ex) (hj : SpR exV jn) : SpR exV (exprV ts ex jn) := by
 intro p h
 have two : ∀ (k : Int) (s : ByteArray), k = 9 ∨ k = 10 → isV ts (jn p).2 s = true → (deeperV ex (jn p).2).2.e = 0 → p.e = 0 ∧ exV (.mk k e0 0 [] [(jn p).1, (deeperV ex (jn p).2).1]) = true ∧ OkL [.mk k e0 0 [] [(jn p).1, (deeperV ex (jn p).2).1]] := by
  intro k s hk hs he
  obtain ⟨k1, k2⟩ := deeper_sp hx _ (is_e hs) he
  obtain ⟨m1, m2, m3⟩ := hj p (is_e hs)
  refine ⟨m1, by rcases hk with rfl | rfl <;> rfl, ok_node ?_ (ok_two m3 k2)⟩
  generalize (deeperV ex (jn p).2).1 = A at k1
  generalize (jn p).1 = B at m2
  rcases hk with rfl | rfl <;> simp [okP, bareV, partsV, valV, zB, zL, k1, m2]
 unfold exprV at h ⊢
 by_cases q0 : isV ts (jn p).2 sEq = true
 · rw [if_pos q0] at h ⊢; exact two 9 _ (.inl rfl) q0 h
 rw [if_neg q0] at h ⊢
 by_cases q1 : isV ts (jn p).2 sBang = true
 · rw [if_pos q1] at h ⊢; exact two 10 _ (.inr rfl) q1 h
 rw [if_neg q1] at h ⊢
 exact hj p h
theorem sg0_b : SgB sgs0 := by
 intro s hs t ht
 simp only [List.mem_cons, List.not_mem_nil, or_false] at hs
 rcases hs with rfl | rfl | rfl | rfl | rfl | rfl <;> (unfold binS; rw [ht]; decide +kernel)
theorem sg1_b : SgB sgs1 := by
 intro s hs t ht
 simp only [List.mem_cons, List.not_mem_nil, or_false] at hs
 rcases hs with rfl | rfl <;> (unfold binS; rw [ht]; decide +kernel)
theorem sg2_b : SgB sgs2 := by
 intro s hs t ht
 simp only [List.mem_cons, List.not_mem_nil, or_false] at hs
 rcases hs with rfl | rfl | rfl <;> (unfold binS; rw [ht]; decide +kernel)
theorem exun_sp (hR : TkR ts) : ∀ m, SpR exV (exun ts m).1 ∧ SpR exV (exun ts m).2
 | 0 => ⟨fun p h => (fl_no (c := 161) (by decide) h).elim, fun p h => (fl_no (c := 161) (by decide) h).elim⟩
 | m + 1 => by
  obtain ⟨hx, hu⟩ := exun_sp hR m
  have hun := unary_sp hR hx hu
  exact ⟨expr_sp hx (join_sp (join_sp (join_sp hun _ sg2_b _) _ sg1_b _) _ sg0_b _), hun⟩
theorem fun_sp (hR : TkR ts) {ex : Rule} (hx : SpR exV ex) : SpR (isK 17) (funV ts ex) := by
 intro p h
 have h' : (wantV ts dot (arrowV ts ex (parV ts p).2).2).e = 0 := h
 obtain ⟨b1, b2, b3⟩ := arrow_sp hx _ (want_e h')
 have b1' : (uptoV ts shutR (varV ts) (wantV ts opn (nameV ts 2 p).2)).2.e = 0 := b1
 obtain ⟨c1, c2, c3⟩ := upto_sp shutR (var_sp hR) _ b1'
 obtain ⟨n1, n2, n3⟩ := name_e (.inl rfl) (want_e c1)
 have hnm := (hR _ (pk_mem (by rw [n2]; decide))).2.1 n2
 rw [← n3] at hnm
 have c2' : (parV ts p).1.all (isK 3) = true := c2
 refine ⟨n1, rfl, ok_node ?_ (ok_app c3 b3)⟩
 generalize (nameV ts 2 p).1 = nm at hnm
 generalize (arrowV ts ex (parV ts p).2).1 = A at b2
 generalize (parV ts p).1 = l at c2'
 have hq : partsV (.mk 17 nm 0 [] (l ++ [A])) = true := by
  simp [partsV, b2]
  simpa using c2'
 simp only [okP, hq]
 simp only [bareV, valV, zB, zL, isK]
 simpa using hnm
theorem progL_e {ex : Rule} : ∀ (f : Nat) (l : List Tr) (p : Ps), (progL ts ex f l p).2.e = 0 → p.e = 0
 | 0, l, p, h => h
 | f + 1, l, p, h => by
  rw [progL] at h
  by_cases hc : p.e = 0 ∧ p.i < ts.length
  · exact hc.1
  · rw [if_neg hc] at h; exact h
theorem progL_sp (hR : TkR ts) {ex : Rule} (hx : SpR exV ex) : ∀ (f : Nat) (l : List Tr) (p : Ps), l.all (isK 17) = true → OkL l → (progL ts ex f l p).2.e = 0 → (progL ts ex f l p).1.all (isK 17) = true ∧ OkL (progL ts ex f l p).1
 | 0, l, p, h1, h2, h => ⟨h1, h2⟩
 | f + 1, l, p, h1, h2, h => by
  rw [progL] at h ⊢
  by_cases hc : p.e = 0 ∧ p.i < ts.length
  · rw [if_pos hc] at h ⊢
    obtain ⟨k1, k2, k3⟩ := fun_sp hR hx p (progL_e f _ _ h)
    exact progL_sp hR hx f _ _ (by rw [List.all_append, h1]; simp [k2]) (ok_app h2 k3) h
  · rw [if_neg hc]
    exact ⟨h1, h2⟩
theorem parse_sp (hR : TkR ts) {T : Tr} (h : parseV ts = .ok T) : isK 18 T = true ∧ OkL [T] := by
 unfold parseV at h
 by_cases he : (progV ts (exun ts 41).1 ⟨0, 0, 0⟩).2.e = 0
 ·
  rw [if_neg (by simp [he])] at h
  cases h
  unfold progV at he ⊢
  obtain ⟨a1, a2⟩ := progL_sp hR (exun_sp hR 41).1 _ [] ⟨0, 0, 0⟩ rfl ok_nil he
  refine ⟨rfl, ok_node ?_ a2⟩
  generalize (progL ts (exun ts 41).1 (2 * ts.length + 1) [] ⟨0, 0, 0⟩).1 = l at a1
  simp [okP, bareV, partsV, valV, zB, zL, a1]
 · rw [if_pos he] at h; cases h
end
/-- What Scan tells of a name or a number. -/
theorem tokV_r {s : ByteArray} {i j : Nat} {t : Tok} (hi : i < s.size) (h : tokV s i = .ok (t, j)) : (t.k = 1 → 0 ≤ t.n ∧ t.n ≤ 4611686018427387903) ∧ (t.k = 2 → (isName t.s && !wrd t.s) = true) ∧ (t.k = 3 → ((t.s.toList == [95]) || isVarN t.s) = true) := by
 unfold tokV at h
 by_cases h1 : dig (pk s i) = true
 ·
  rw [if_pos h1] at h
  have h4 := span_le (p := dig) (s := s) (i := i) (by omega)
  split at h
  · cases h
  ·
   rename_i hno
   cases h
   refine ⟨fun _ => ⟨?_, ?_⟩, fun e => by simp at e, fun e => by simp at e⟩
   · refine dva_nonneg (fun k hk => ?_) _ (Nat.le_refl _)
     have hk' : k < span dig s i - i := by rw [(show (s.extract i (span dig s i)).size = span dig s i - i by rw [ByteArray.size_extract]; omega)] at hk; exact hk
     rw [bt_ext s i _ k h4 hk']
     exact span_all (p := dig) (i := i) (i + k) (by omega) (by omega)
   · exact Int.not_lt.1 fun hlt => hno (.inl hlt)
 ·
  rw [if_neg h1] at h
  by_cases h2 : pk s i = 34
  ·
   rw [if_pos h2] at h
   cases hq : qtd s i with
   | none => rw [hq] at h; cases h
   | some p =>
    obtain ⟨l, k⟩ := p
    rw [hq] at h
    cases h
    exact ⟨fun e => by simp at e, fun e => by simp at e, fun e => by simp at e⟩
  ·
   rw [if_neg h2] at h
   by_cases h3 : low (pk s i) = true ∨ vab (pk s i) = true
   ·
    rw [if_pos h3] at h
    have hin : inN (pk s i) = true := by rcases h3 with h3 | h3 <;> simp [inN, h3]
    have h4 := span_yes (p := inN) hin rfl
    have h5 := span_ge inN s (i + 1)
    have h6 := span_le (p := inN) (s := s) (i := i) (by omega)
    split at h
    · cases h
    ·
     rename_i hno
     cases h
     have hsz : (s.extract i (span inN s i)).size = span inN s i - i := by rw [ByteArray.size_extract]; omega
     have hall : ∀ k, k < (s.extract i (span inN s i)).size → inN (bt (s.extract i (span inN s i)) k) = true := fun k hk => by
      rw [hsz] at hk
      rw [bt_ext s i _ k h6 hk]
      exact span_all (p := inN) (i := i) (i + k) (by omega) (by omega)
     have h0 : bt (s.extract i (span inN s i)) 0 = pk s i := by
      rw [bt_ext s i _ 0 h6 (by omega)]
      unfold pk
      rw [if_pos hi]; rfl
     have hs1 : 1 ≤ (s.extract i (span inN s i)).size := by omega
     have hs2 : (s.extract i (span inN s i)).size ≤ 32 := by omega
     generalize s.extract i (span inN s i) = t at *
     refine ⟨fun e => ?_, fun e => ?_, fun e => ?_⟩
     · exfalso
       dsimp only at e
       split at e
       · exact absurd e (by decide)
       · split at e <;> exact absurd e (by decide)
     ·
      dsimp only at e ⊢
      by_cases hw : wrd t = true
      · rw [if_pos hw] at e; exact absurd e (by decide)
      ·
       rw [if_neg hw] at e
       by_cases hl : low (pk s i) = true
       ·
        have ha : allN t t.size = true := by
         unfold allN
         rw [List.all_eq_true]
         intro k hk
         have := hall k (List.mem_range.1 hk)
         unfold inN vab dig at this
         unfold inNa oth
         cases q : low (bt t k)
         · rw [q] at this
           simp only [Bool.false_or, Bool.or_eq_true, Bool.and_eq_true, decide_eq_true_eq, beq_iff_eq] at this ⊢
           omega
         · rfl
        rw [← h0] at hl
        have hw' : wrd t = false := by simpa using hw
        simp [isName, hs1, hs2, hl, ha, hw']
       · rw [if_neg hl] at e; exact absurd e (by decide)
     ·
      dsimp only at e ⊢
      by_cases hw : wrd t = true
      · rw [if_pos hw] at e; exact absurd e (by decide)
      ·
       rw [if_neg hw] at e
       by_cases hl : low (pk s i) = true
       · rw [if_pos hl] at e; exact absurd e (by decide)
       ·
        have hv : vab (bt t 0) = true := by rw [h0]; exact h3.resolve_left hl
        have ha : allM t t.size = true := by
         unfold allM
         rw [List.all_eq_true]
         intro k hk
         have := hall k (List.mem_range.1 hk)
         unfold inN dig at this
         unfold inNm
         cases q : vab (bt t k)
         · rw [q] at this
           simpa using this
         · rfl
        cases q : (t.toList == [95])
        · simp [isVarN, hs1, hs2, hv, ha, q]
        · rfl
   · rw [if_neg h3] at h
     cases hq : sgn s i with
     | none => rw [hq] at h; cases h
     | some l =>
      rw [hq] at h
      cases h
      exact ⟨fun e => by simp at e, fun e => by simp at e, fun e => by simp at e⟩
def TokR (t : Tok) : Prop := (t.k = 1 → 0 ≤ t.n ∧ t.n ≤ 4611686018427387903) ∧ (t.k = 2 → (isName t.s && !wrd t.s) = true) ∧ (t.k = 3 → ((t.s.toList == [95]) || isVarN t.s) = true)
theorem scn_r {s : ByteArray} : ∀ (f i : Nat) (ts l : List Tok), scn s f i ts = .ok l → (∀ t ∈ ts, TokR t) → ∀ t ∈ l, TokR t
 | 0, i, ts, l, h, h1 => by simp [scn] at h; subst h; exact h1
 | f + 1, i, ts, l, h, h1 => by
  rw [scn] at h
  split at h
  ·
   rename_i hi
   split at h
   · cases h
   ·
    cases ht : tokV s i with
    | error c => rw [ht] at h; cases h
    | ok v =>
     obtain ⟨t, j⟩ := v
     rw [ht] at h
     refine scn_r f _ _ l h (fun u hu => ?_)
     rcases List.mem_append.1 hu with hu | hu
     · exact h1 u hu
     · rw [List.mem_singleton] at hu; subst hu; exact tokV_r hi ht
  · cases h; exact h1
theorem scanV_r {s : ByteArray} {l : List Tok} (h : scanV s = .ok l) : TkR (l.map tnOf) := by
 unfold scanV at h
 split at h
 · cases h
 · intro t ht
   obtain ⟨u, hu, rfl⟩ := List.mem_map.1 ht
   exact scn_r _ _ _ _ h (fun t ht => by cases ht) u hu
/-- A text's tree is a program, part by part as it ought to be but for how many bytes stand there. -/
theorem text_sp {s : ByteArray} {T : Tr} (h : textV s = .ok T) : isK 18 T = true ∧ OkL [T] := by
 unfold textV at h
 cases hv : scanV s with
 | error p => rw [hv] at h; cases h
 | ok l =>
  rw [hv] at h
  exact parse_sp (scanV_r hv) h
/-- Where Check tells that such a tree is none, too many bytes stand in it. -/
theorem text_177 {s : ByteArray} {T : Tr} (h : textV s = .ok T) (h7 : chkV T = 177) : (preL [T]).length ≤ 4000 ∧ ∃ U ∈ preL [T], 4096 < U.b.length := by
 obtain ⟨h1, h2⟩ := text_sp h
 obtain ⟨k, s', n, b, l⟩ := T
 have hk : k = 18 := by simpa [isK] using h1
 subst hk
 unfold chkV at h7
 dsimp only at h7
 by_cases hc : crowdV (.mk 18 s' n b l) = true
 · rw [if_pos hc] at h7; exact absurd h7 (by decide)
 ·
  rw [if_neg hc] at h7
  refine ⟨by simpa [crowdV] using hc, ?_⟩
  cases hm : (preL [Tr.mk 18 s' n b l]).any misV with
  | true =>
   obtain ⟨U, hU, hmU⟩ := List.any_eq_true.1 hm
   refine ⟨U, hU, ?_⟩
   have hok := h2 U hU
   unfold okP at hok
   unfold misV at hmU
   simp only [Bool.and_eq_true, Bool.or_eq_true, Bool.not_eq_true'] at hok hmU
   obtain ⟨a, c, d⟩ := hok
   rw [a, c] at hmU
   simp at hmU
   rw [hmU] at d
   obtain ⟨uk, us, un, ub, ul⟩ := U
   have hu4 : uk = 4 := by simpa [isK] using d
   subst hu4
   simp [valV] at hmU
   show 4096 < ub.length
   omega
  | false =>
   exfalso
   rw [hm] at h7
   rw [if_neg (by decide)] at h7
   repeat' (split at h7)
   all_goals first | (exact absurd h7 (by decide)) | skip
end Go.Proofs.YtjedbfbolifjjaaGreatDoor

namespace Go.Proofs.YtjedbfbolifjjaaGreatDoor
open Go.RowKit Go.Maps
variable {W W' : World}
set_option maxRecDepth 100000 in
set_option maxHeartbeats 1600000 in
theorem chktexts_c (W : World) (s : ByteArray) (hE : Er W) (hS : Sg W) (hL : Lv W) (hB : Bu W) : Calls Tryz.prog 4 #[.string s] W fun e w' => e = .returned (.bool true) ∧ Gr (fun _ => False) W w' := by
 have hal := Lib.hid (alive_c W hE hS hL hB)
 have ht := Lib.hid (fun w (g : Gr (fun _ => False) W w) => tree_c w s (hE.gr g (fun e => e)) (hS.gr g (fun e => e)) (hL.gr g (fun e => e) (fun e => e)))
 replace hB := Lib.hid hB
 clear hE hS hL
 cases hv : textV s with
 | error p =>
  rw [hv] at ht
  clear hB hv
  go_enter Tryz.func4, Tryz.ntmps4
  go_wp2_with fail
  refine hal.out.mono ?_
  rintro e w1 ⟨rfl, g1⟩
  go_wp2_with fail
  refine (ht.out w1 g1).mono ?_
  rintro x w2 ⟨rfl, g2⟩
  have gA := Gr.alloc w2 (.cells zc 25) (fun _ => False)
  go_wp2_with fail
  go_ret
  exact ⟨rfl, (g1.trans g2).trans gA⟩
 | ok T =>
  have hs := text_szs hv
  have h177 : Hid (chkV T = 177 → (preL [T]).length ≤ 4000 ∧ ∃ U ∈ preL [T], 4096 < U.b.length) := text_177 hv
  rw [hv] at ht
  clear hv
  go_enter Tryz.func4, Tryz.ntmps4
  go_wp2_with fail
  refine hal.out.mono ?_
  rintro e w1 ⟨rfl, g1⟩
  go_wp2_with fail
  refine (ht.out w1 g1).mono ?_
  rintro x w2 ⟨v, rfl, rep, g2⟩
  obtain ⟨tk, tt, tn, a1, n1, c1, a2, n2, c2, rfl⟩ := rep.agg
  have gA := Gr.alloc w2 (.cells #[.int .i64 tk, .string tt, .int .i64 tn, .slice a1 n1 c1, .slice a2 n2 c2] 25) (fun _ => False)
  obtain ⟨⟨k0, k1, k2, k3, k4⟩, _⟩ := five_cells (heap_alloc_new w2 (.cells #[.int .i64 tk, .string tt, .int .i64 tn, .slice a1 n1 c1, .slice a2 n2 c2] 25))
  have hR := (rep.gr gA (fun k hk e => e)).gen.turn (A' := fun z => z < (w2.alloc (.cells #[.int .i64 tk, .string tt, .int .i64 tn, .slice a1 n1 c1, .slice a2 n2 c2] 25)).heap.size) (fun z hz' hl => ⟨hl, rfl⟩)
  have G3 := Lib.hid ((g1.trans g2).trans gA)
  have hRx : ∀ w, Gr (fun _ => False) (w2.alloc (.cells #[.int .i64 tk, .string tt, .int .i64 tn, .slice a1 n1 c1, .slice a2 n2 c2] 25)) w → RepG (fun k => k < w.heap.size) w T (trv tk tt tn (.slice a1 n1 c1) (.slice a2 n2 c2)) := fun w g => hR.turn (fun z hz hl => ⟨Nat.lt_of_lt_of_le hz g.size, g.block z hl (fun e => e)⟩)
  have hck : Hid (∀ w, Gr (fun _ => False) (w2.alloc (.cells #[.int .i64 tk, .string tt, .int .i64 tn, .slice a1 n1 c1, .slice a2 n2 c2] 25)) w → Calls Tryz.prog 11 #[trv tk tt tn (.slice a1 n1 c1) (.slice a2 n2 c2)] w fun e w' => e = .returned (.int .i64 (chkV T)) ∧ Gr (fun _ => False) w w') := fun w g => check_c w T _ (hRx w g) hs (Bu.gr hB.out (G3.out.trans g) (fun e => e))
  have hrf : Hid (∀ w, Gr (fun _ => False) (w2.alloc (.cells #[.int .i64 tk, .string tt, .int .i64 tn, .slice a1 n1 c1, .slice a2 n2 c2] 25)) w → Calls Tryz.prog 12 #[trv tk tt tn (.slice a1 n1 c1) (.slice a2 n2 c2)] w fun e w' => e = .returned (.int .i64 (chkV T)) ∧ Gr (fun _ => False) w w') := fun w g => by
   have := rcheck_c w T _ (hRx w g) hs
   rw [refV_chk] at this
   exact this
  have hall : Hid (∀ w, Gr (fun _ => False) (w2.alloc (.cells #[.int .i64 tk, .string tt, .int .i64 tn, .slice a1 n1 c1, .slice a2 n2 c2] 25)) w → Calls Tryz.prog 14 #[trv tk tt tn (.slice a1 n1 c1) (.slice a2 n2 c2), .int .i64 5000] w fun e w' => ∃ v' us, e = .returned v' ∧ w'.ownsRow w.heap.size 25 5 v' ((preL [T]).take 5000).length (us.flatMap cellsOf) ∧ RepsG (fun k => k < w.heap.size) w' ((preL [T]).take 5000) us ∧ Gr (fun _ => False) w w') := fun w g => allg_c T w w.heap.size _ 5000 (hRx w g) (Nat.le_refl _) (by decide) (by decide)
  generalize chkV T = c at hck hrf h177
  clear hRx hR rep hs gA hal ht
  go_wp2_with fail
  generalize w2.alloc (.cells #[.int .i64 tk, .string tt, .int .i64 tn, .slice a1 n1 c1, .slice a2 n2 c2] 25) = w3 at *
  refine (hck.out w3 (Gr.refl _ _)).mono ?_
  rintro e w4 ⟨rfl, g4⟩
  have j0 := cell_gr k0 g4 (fun e => e)
  have j1 := cell_gr k1 g4 (fun e => e)
  have j2 := cell_gr k2 g4 (fun e => e)
  have j3 := cell_gr k3 g4 (fun e => e)
  have j4 := cell_gr k4 g4 (fun e => e)
  have hbt := World.block_lt_of_cell? _ _ j0
  clear k0 k1 k2 k3 k4
  go_wp2_with fail
  refine (hrf.out w4 g4).mono ?_
  rintro e w5 ⟨rfl, g5⟩
  have G5 := g4.trans g5
  have k0 := cell_gr j0 g5 (fun e => e)
  have k1 := cell_gr j1 g5 (fun e => e)
  have k2 := cell_gr j2 g5 (fun e => e)
  have k3 := cell_gr j3 g5 (fun e => e)
  have k4 := cell_gr j4 g5 (fun e => e)
  have hbt := World.block_lt_of_cell? _ _ k0
  clear j0 j1 j2 j3 j4
  by_cases hc7 : c = 177
  case neg =>
   have q7 : (c != 177) = true := by simpa using hc7
   clear hc7 h177 hall
   go_wp2_with fail
   go_ret
   exact ⟨rfl, G3.out.trans G5⟩
  obtain ⟨hle, hex⟩ := h177.out hc7
  subst hc7
  rw [List.take_of_length_le (by omega)] at hall
  generalize preL [T] = Q at hall hle hex
  have hleI : (Q.length : Int) ≤ 4000 := by omega
  replace hle := Lib.hid hle
  replace hex := Lib.hid hex
  have hcall := Lib.hid (hall.out w5 G5)
  clear h177 hall hck hrf hB
  go_wp2_with fail
  refine hcall.out.mono ?_
  rintro e w6 ⟨v', us, rfl, hrow, hreps, g6⟩
  obtain ⟨oa, oc, rfl⟩ := ownsRow_sv hrow
  have hrq := Lib.hid (rowat_own hrow (hreps.turn (A' := fun k => k < w6.heap.size) (fun z hz hl => ⟨hl, rfl⟩)))
  have G6 := Lib.hid (G3.out.trans (G5.trans g6))
  clear hrow hreps k0 k1 k2 k3 k4 hcall
  go_wp2_with fail
  go_loopw [7] (fun u wr => ∃ i : Nat, i ≤ Q.length ∧ u = .int .i64 (i : Int) ∧ Hid (∀ (j : Nat) U, j < i → Q[j]? = some U → ¬ 4096 < U.b.length) ∧ Gr (fun _ => False) w6 wr) (fun u _ => Q.length - (intOf u).toNat)
  case atStart => exact ⟨0, Nat.zero_le _, rfl, (fun j U h => absurd h (by omega)), Gr.refl _ _⟩
  case round =>
   obtain ⟨i, hi, rfl, hno, hG⟩ := hrel
   by_cases hlt : i < Q.length
   ·
    have hd : decide ((i : Int) < (Q.length : Int)) = true := by simp; omega
    have hiI : (i : Int) < (Q.length : Int) := by omega
    have hTi : Q[i]? = some Q[i] := List.getElem?_eq_getElem hlt
    obtain ⟨g', o', rfl, hg', hTA⟩ := hrq.out i _ hTi
    generalize Q[i] = U at hTA hTi
    obtain ⟨uk, us', un, ub, ul⟩ := U
    obtain ⟨ba', bc', la', lc', ⟨z0, z1, z2, z3, z4⟩, _, hgl'⟩ := (hTA.g0 hG hg').parts
    have hb := Lib.hid hi
    have hstp : Hid (¬ 4096 < ub.length → ∀ (j : Nat) U, j < i + 1 → Q[j]? = some U → ¬ 4096 < U.b.length) := fun h j U hj hU => by
     by_cases hji : j < i
     · exact hno.out j U hji hU
     · have : j = i := by omega
       subst this
       rw [hTi] at hU
       cases hU
       exact h
    replace hlt := Lib.hid hlt
    generalize ub.length = bl at z3 hstp
    clear hTA hTi z0 z1 z2 z4 hno
    by_cases hbig : 4096 < bl
    · have q8 : decide ((4096 : Int) < (bl : Int)) = true := by simp; omega
      clear hstp
      go_wp2_with fail
      go_ret
      exact ⟨rfl, G6.out.trans hG⟩
    · have q8 : decide ((4096 : Int) < (bl : Int)) = false := by simp; omega
      have hn2 := Lib.hid (hstp.out hbig)
      clear hstp
      go_wp2_with fail
      have hlt' := hlt.out
      exact ⟨⟨i + 1, by omega, by go_num, hn2, hG⟩, by simp [intOf]; omega⟩
   · exfalso
     obtain ⟨U, hU, hbU⟩ := hex.out
     obtain ⟨j, hj, e⟩ := List.getElem_of_mem hU
     exact hno.out j U (by omega) (by rw [← e]; exact List.getElem?_eq_getElem hj) hbU
end Go.Proofs.YtjedbfbolifjjaaGreatDoor
