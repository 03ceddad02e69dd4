/-
  Carried over from another seat of ours (HD).
  Carried over from another seat of ours (HE).
-/
import Derived.Test.YtjedbfbolifjjaaGreatDoorGW
set_option linter.unusedVariables false
set_option linter.unusedSimpArgs false
namespace Go.Proofs.YtjedbfbolifjjaaGreatDoor
/-- Two tokens, but for their places. -/
def Eqv (t u : Tn) : Prop := t.k = u.k ∧ t.s = u.s ∧ t.n = u.n ∧ t.b = u.b
theorem Eqv.refl (t : Tn) : Eqv t t := ⟨rfl, rfl, rfl, rfl⟩
def Ps.sh (p : Ps) (n : Nat) : Ps := { p with i := n + p.i }
/-- What ts has up to the place K, ts' has n places further on. -/
structure Sees (ts ts' : List Tn) (n K : Nat) : Prop where
 pk : ∀ p : Ps, p.i ≤ K → Eqv (pkT ts' (p.sh n)) (pkT ts p)
 len : ts.length ≤ ts'.length
def Sim (n K : Nat) (g g' : Rule) : Prop := ∀ p : Ps, (p.i ≤ (g p).2.i ∧ (g p).2.d = p.d) ∧ ((g p).2.i ≤ K → g' (p.sh n) = ((g p).1, (g p).2.sh n))
def SimQ (n K : Nat) (g g' : Ps → List Tr × Ps) : Prop := ∀ p : Ps, (p.i ≤ (g p).2.i ∧ (g p).2.d = p.d) ∧ ((g p).2.i ≤ K → g' (p.sh n) = ((g p).1, (g p).2.sh n))
theorem fail_sh (c : Int) (p : Ps) (n : Nat) : failV c (p.sh n) = (failV c p).sh n := by
 unfold failV
 by_cases h : p.e = 0
 · rw [if_pos h, if_pos (show (p.sh n).e = 0 from h)]; rfl
 · rw [if_neg h, if_neg (show ¬ (p.sh n).e = 0 from h)]
theorem fail_i (c : Int) (p : Ps) : (failV c p).i = p.i ∧ (failV c p).d = p.d := by
 unfold failV
 by_cases h : p.e = 0
 · rw [if_pos h]; exact ⟨rfl, rfl⟩
 · rw [if_neg h]; exact ⟨rfl, rfl⟩
section
variable {ts ts' : List Tn} {n K : Nat} {ex ex' un un' g g' : Rule}
theorem pk_out {p : Ps} (h : ts.length ≤ p.i) : pkT ts p = tn0 := by
 unfold pkT
 split
 · rw [List.getElem?_eq_none h]; rfl
 · rfl
theorem is_sim (hs : Sees ts ts' n K) {p : Ps} (h : p.i ≤ K) (s : ByteArray) : isV ts' (p.sh n) s = isV ts p s := by
 obtain ⟨h1, h2, _, _⟩ := hs.pk p h
 unfold isV
 rw [h1, h2]
theorem want_sim (hs : Sees ts ts' n K) (s : ByteArray) (p : Ps) : (p.i ≤ (wantV ts s p).i ∧ (wantV ts s p).d = p.d) ∧ (p.i ≤ K → wantV ts' s (p.sh n) = (wantV ts s p).sh n) := by
 refine ⟨wantV_ge ts s p, fun h => ?_⟩
 unfold wantV
 rw [is_sim hs h, fail_sh]
 split <;> rfl
theorem name_sim (hs : Sees ts ts' n K) (k : Int) (p : Ps) : (p.i ≤ (nameV ts k p).2.i ∧ (nameV ts k p).2.d = p.d) ∧ (p.i ≤ K → nameV ts' k (p.sh n) = ((nameV ts k p).1, (nameV ts k p).2.sh n)) := by
 refine ⟨nameV_ge ts k p, fun h => ?_⟩
 obtain ⟨h1, h2, _, _⟩ := hs.pk p h
 unfold nameV
 rw [h1, h2, fail_sh]
 split <;> rfl
theorem sevL_out {p : Ps} (s : ByteArray) (l : List Tr) (h : isV ts p s = false) : ∀ f, sevL ts s g f l p = (l, p)
 | 0 => rfl
 | f + 1 => by rw [sevL, h, if_neg (by decide)]
theorem sevL_sim (hs : Sees ts ts' n K) (s : ByteArray) (hg : Sim n K g g') : ∀ (f f' : Nat) (l : List Tr) (p : Ps), (p.i ≤ (sevL ts s g f l p).2.i ∧ (sevL ts s g f l p).2.d = p.d) ∧
 (f ≤ f' → ts.length ≤ p.i + f → (sevL ts s g f l p).2.i ≤ K → sevL ts' s g' f' l (p.sh n) = ((sevL ts s g f l p).1, (sevL ts s g f l p).2.sh n))
 | 0, f', l, p => by
  refine ⟨⟨Nat.le_refl _, rfl⟩, fun _ h1 h2 => ?_⟩
  have h2' : p.i ≤ K := h2
  refine sevL_out s l ?_ f'
  rw [is_sim hs h2']
  unfold isV
  rw [pk_out (by omega)]
  rfl
 | f + 1, f', l, p => by
  rw [sevL]
  by_cases hi : isV ts p s = true
  ·
   rw [if_pos hi]
   obtain ⟨⟨m1, m2⟩, m3⟩ := hg p.next
   have m1' : p.i + 1 ≤ (g p.next).2.i := m1
   have m2' : (g p.next).2.d = p.d := m2
   obtain ⟨⟨k1, k2⟩, _⟩ := sevL_sim hs s hg f f (l ++ [(g p.next).1]) (g p.next).2
   refine ⟨⟨by omega, by omega⟩, fun h0 h1 h2 => ?_⟩
   obtain ⟨f', rfl⟩ : ∃ u, f' = u + 1 := ⟨f' - 1, by omega⟩
   have e := (sevL_sim hs s hg f f' (l ++ [(g p.next).1]) (g p.next).2).2 (by omega) (by omega) h2
   have e2 := m3 (by omega)
   rw [sevL, is_sim hs (by omega), if_pos hi]
   rw [show (p.sh n).next = p.next.sh n from rfl, e2]
   exact e
  · rw [if_neg hi]
    refine ⟨⟨Nat.le_refl _, rfl⟩, fun _ _ h2 => ?_⟩
    have h2' : p.i ≤ K := h2
    exact sevL_out s l (by rw [is_sim hs h2']; simpa using hi) f'
theorem sev_sim (hs : Sees ts ts' n K) (s : ByteArray) (hg : Sim n K g g') : SimQ n K (sevV ts s g) (sevV ts' s g') := fun p => by
 obtain ⟨⟨m1, m2⟩, m3⟩ := hg p
 obtain ⟨⟨k1, k2⟩, k3⟩ := sevL_sim hs s hg ts.length ts'.length [(g p).1] (g p).2
 unfold sevV
 refine ⟨⟨by omega, by omega⟩, fun h => ?_⟩
 rw [m3 (by omega)]
 exact k3 hs.len (by omega) h
theorem upto_sim (hs : Sees ts ts' n K) (en : ByteArray) (hg : Sim n K g g') : SimQ n K (uptoV ts en g) (uptoV ts' en g') := fun p => by
 have w1 := want_sim hs en p
 have k := sev_sim hs cma hg p
 have w2 := want_sim hs en (sevV ts cma g p).2
 have mono : p.i ≤ (uptoV ts en g p).2.i ∧ (uptoV ts en g p).2.d = p.d := by
  unfold uptoV
  split
  · exact w1.1
  · exact ⟨Nat.le_trans k.1.1 w2.1.1, w2.1.2.trans k.1.2⟩
 refine ⟨mono, fun h => ?_⟩
 have hp : p.i ≤ K := Nat.le_trans mono.1 h
 unfold uptoV at h ⊢
 rw [is_sim hs hp]
 by_cases hi : isV ts p en = true
 · rw [if_pos hi] at h ⊢
   rw [if_pos hi, w1.2 hp]
 · rw [if_neg hi] at h ⊢
   rw [if_neg hi]
   have h' : (wantV ts en (sevV ts cma g p).2).i ≤ K := h
   have hq : (sevV ts cma g p).2.i ≤ K := Nat.le_trans w2.1.1 h'
   rw [k.2 hq, w2.2 hq]
theorem var_sim (hs : Sees ts ts' n K) : Sim n K (varV ts) (varV ts') := fun p => by
 have k := name_sim hs 3 p
 refine ⟨k.1, fun h => ?_⟩
 unfold varV
 rw [k.2 (Nat.le_trans k.1.1 h)]
theorem arrow_sim (hs : Sees ts ts' n K) (hx : Sim n K ex ex') : Sim n K (arrowV ts ex) (arrowV ts' ex') := fun p => by
 have w := want_sim hs arw p
 have k := sev_sim hs cma hx (wantV ts arw p)
 refine ⟨⟨Nat.le_trans w.1.1 k.1.1, k.1.2.trans w.1.2⟩, fun h => ?_⟩
 have h' : (sevV ts cma ex (wantV ts arw p)).2.i ≤ K := h
 unfold arrowV
 rw [w.2 (Nat.le_trans (Nat.le_trans w.1.1 k.1.1) h'), k.2 h']
theorem deeper_sim (hg : Sim n K g g') : Sim n K (deeperV g) (deeperV g') := fun p => by
 unfold deeperV
 by_cases hd : p.d = 40
 · rw [if_pos hd, if_pos (show (p.sh n).d = 40 from hd), fail_sh]
   exact ⟨⟨by rw [(fail_i 161 p).1]; exact Nat.le_refl _, (fail_i 161 p).2⟩, fun _ => rfl⟩
 ·
  rw [if_neg hd, if_neg (show ¬ (p.sh n).d = 40 from hd)]
  have k := hg p.deep
  have k1 : p.i + 1 ≤ (g p.deep).2.i := k.1.1
  refine ⟨⟨by show p.i ≤ (g p.deep).2.i; omega, rfl⟩, fun h => ?_⟩
  rw [show (p.sh n).deep = p.deep.sh n from rfl, k.2 h]
  rfl
theorem clause_sim (hs : Sees ts ts' n K) (hx : Sim n K ex ex') (hu : Sim n K un un') : Sim n K (clauseV ts ex un) (clauseV ts' ex' un') := fun p => by
 have a := hu p
 have b := arrow_sim hs hx (un p).2
 refine ⟨⟨Nat.le_trans a.1.1 b.1.1, b.1.2.trans a.1.2⟩, fun h => ?_⟩
 have h' : (arrowV ts ex (un p).2).2.i ≤ K := h
 unfold clauseV
 rw [a.2 (Nat.le_trans b.1.1 h'), b.2 h']
theorem bracket_sim (hs : Sees ts ts' n K) (hx : Sim n K ex ex') : Sim n K (bracketV ts ex) (bracketV ts' ex') := fun p => by
 have a := hx p
 have b := want_sim hs shutR (ex p).2
 refine ⟨⟨Nat.le_trans a.1.1 b.1.1, b.1.2.trans a.1.2⟩, fun h => ?_⟩
 have h' : (wantV ts shutR (ex p).2).i ≤ K := h
 unfold bracketV
 rw [a.2 (Nat.le_trans b.1.1 h'), b.2 (Nat.le_trans b.1.1 h')]
theorem row_sim (hs : Sees ts ts' n K) (hx : Sim n K ex ex') (k : Int) (en nm : ByteArray) : Sim n K (fun p => (.mk k nm 0 [] (uptoV ts en ex p).1, (uptoV ts en ex p).2)) (fun p => (.mk k nm 0 [] (uptoV ts' en ex' p).1, (uptoV ts' en ex' p).2)) := fun p => by
 have a := upto_sim hs en hx p
 refine ⟨a.1, fun h => ?_⟩
 have h' : (uptoV ts en ex p).2.i ≤ K := h
 show (Tr.mk k nm 0 [] (uptoV ts' en ex' (p.sh n)).1, (uptoV ts' en ex' (p.sh n)).2) = _
 rw [a.2 h']
theorem choice_sim (hs : Sees ts ts' n K) (hx : Sim n K ex ex') (hu : Sim n K un un') : Sim n K (choiceV ts ex un) (choiceV ts' ex' un') := fun p => by
 have a := hx p
 have b := want_sim hs wOf (ex p).2
 have c := sev_sim hs sem (clause_sim hs hx hu) (wantV ts wOf (ex p).2)
 have d := want_sim hs wEnd (sevV ts sem (clauseV ts ex un) (wantV ts wOf (ex p).2)).2
 have hi : (choiceV ts ex un p).2 = wantV ts wEnd (sevV ts sem (clauseV ts ex un) (wantV ts wOf (ex p).2)).2 := rfl
 obtain ⟨⟨a1, a2⟩, a3⟩ := a
 obtain ⟨⟨b1, b2⟩, b3⟩ := b
 obtain ⟨⟨c1, c2⟩, c3⟩ := c
 obtain ⟨⟨d1, d2⟩, d3⟩ := d
 refine ⟨⟨by rw [hi]; omega, by rw [hi]; omega⟩, fun h => ?_⟩
 rw [hi] at h
 unfold choiceV
 rw [a3 (by omega)]
 show (Tr.mk 12 e0 0 [] ([(ex p).1] ++ (sevV ts' sem (clauseV ts' ex' un') (wantV ts' wOf ((ex p).2.sh n))).1), wantV ts' wEnd (sevV ts' sem (clauseV ts' ex' un') (wantV ts' wOf ((ex p).2.sh n))).2) = _
 rw [b3 (by omega), c3 (by omega)]
 show (Tr.mk 12 e0 0 [] ([(ex p).1] ++ (sevV ts sem (clauseV ts ex un) (wantV ts wOf (ex p).2)).1), wantV ts' wEnd ((sevV ts sem (clauseV ts ex un) (wantV ts wOf (ex p).2)).2.sh n)) = _
 rw [d3 (by omega)]
theorem rcl_sim (hs : Sees ts ts' n K) (hx : Sim n K ex ex') (hu : Sim n K un un') : SimQ n K (rclV ts ex un) (rclV ts' ex' un') := fun p => by
 have c := sev_sim hs sem (clause_sim hs hx hu) p
 have mono : p.i ≤ (rclV ts ex un p).2.i ∧ (rclV ts ex un p).2.d = p.d := by
  unfold rclV
  split
  · exact ⟨Nat.le_refl _, rfl⟩
  · exact c.1
 refine ⟨mono, fun h => ?_⟩
 have hp : p.i ≤ K := Nat.le_trans mono.1 h
 unfold rclV at h ⊢
 rw [is_sim hs hp]
 by_cases hi : isV ts p wAft = true
 · rw [if_pos hi, if_pos hi]
 · rw [if_neg hi] at h ⊢
   rw [if_neg hi, c.2 h]
theorem raft_sim (hs : Sees ts ts' n K) (hx : Sim n K ex ex') (c : List Tr × Ps) : (c.2.i ≤ (raftV ts ex c).2.i ∧ (raftV ts ex c).2.d = c.2.d) ∧ ((raftV ts ex c).2.i ≤ K → raftV ts' ex' (c.1, c.2.sh n) = ((raftV ts ex c).1, (raftV ts ex c).2.sh n)) := by
 have a := hx c.2.next
 have b := arrow_sim hs hx (ex c.2.next).2
 obtain ⟨⟨a1, a2⟩, a3⟩ := a
 obtain ⟨⟨b1, b2⟩, b3⟩ := b
 have a1' : c.2.i + 1 ≤ (ex c.2.next).2.i := a1
 have a2' : (ex c.2.next).2.d = c.2.d := a2
 have mono : c.2.i ≤ (raftV ts ex c).2.i ∧ (raftV ts ex c).2.d = c.2.d := by
  unfold raftV
  split
  · exact ⟨by show c.2.i ≤ (arrowV ts ex (ex c.2.next).2).2.i; omega, by show (arrowV ts ex (ex c.2.next).2).2.d = _; omega⟩
  · exact ⟨Nat.le_refl _, rfl⟩
 refine ⟨mono, fun h => ?_⟩
 have hp : c.2.i ≤ K := Nat.le_trans mono.1 h
 unfold raftV at h ⊢
 show (if isV ts' (c.2.sh n) wAft = true then (c.1 ++ [.mk 14 e0 0 [] [(ex' (c.2.sh n).next).1, (arrowV ts' ex' (ex' (c.2.sh n).next).2).1]], (arrowV ts' ex' (ex' (c.2.sh n).next).2).2) else (c.1, c.2.sh n)) = _
 rw [is_sim hs hp]
 by_cases hi : isV ts c.2 wAft = true
 · rw [if_pos hi] at h ⊢
   have h' : (arrowV ts ex (ex c.2.next).2).2.i ≤ K := h
   rw [if_pos hi, show (c.2.sh n).next = c.2.next.sh n from rfl, a3 (by omega), b3 h']
 · rw [if_neg hi, if_neg hi]
theorem recv_sim (hs : Sees ts ts' n K) (hx : Sim n K ex ex') (hu : Sim n K un un') : Sim n K (recvV ts ex un) (recvV ts' ex' un') := fun p => by
 obtain ⟨⟨a1, a2⟩, a3⟩ := rcl_sim hs hx hu p
 obtain ⟨⟨b1, b2⟩, b3⟩ := raft_sim hs hx (rclV ts ex un p)
 obtain ⟨⟨c1, c2⟩, c3⟩ := want_sim hs wEnd (raftV ts ex (rclV ts ex un p)).2
 have hi : (recvV ts ex un p).2 = wantV ts wEnd (raftV ts ex (rclV ts ex un p)).2 := rfl
 refine ⟨⟨by rw [hi]; omega, by rw [hi]; omega⟩, fun h => ?_⟩
 rw [hi] at h
 unfold recvV
 rw [a3 (by omega), b3 (by omega)]
 show (Tr.mk 13 e0 0 [] (raftV ts ex (rclV ts ex un p)).1, wantV ts' wEnd ((raftV ts ex (rclV ts ex un p)).2.sh n)) = _
 rw [c3 (by omega)]
theorem atom_sim (hs : Sees ts ts' n K) (hx : Sim n K ex ex') : Sim n K (atomV ts ex) (atomV ts' ex') := fun p => by
 obtain ⟨⟨a1, a2⟩, a3⟩ := name_sim hs 2 p
 have d := deeper_sim (g := callV ts (nameV ts 2 p).1 ex) (g' := callV ts' (nameV ts 2 p).1 ex') (row_sim hs hx 11 shutR (nameV ts 2 p).1) (nameV ts 2 p).2
 obtain ⟨⟨d1, d2⟩, d3⟩ := d
 have mono : p.i ≤ (atomV ts ex p).2.i ∧ (nameV ts 2 p).2.i ≤ (atomV ts ex p).2.i ∧ (atomV ts ex p).2.d = p.d := by
  unfold atomV
  split
  · exact ⟨by omega, d1, by omega⟩
  · exact ⟨a1, Nat.le_refl _, a2⟩
 refine ⟨⟨mono.1, mono.2.2⟩, fun h => ?_⟩
 have hq : (nameV ts 2 p).2.i ≤ K := Nat.le_trans mono.2.1 h
 unfold atomV at h ⊢
 rw [a3 (by omega)]
 show (if isV ts' ((nameV ts 2 p).2.sh n) opn = true then deeperV (callV ts' (nameV ts 2 p).1 ex') ((nameV ts 2 p).2.sh n) else (.mk 2 (nameV ts 2 p).1 0 [] [], (nameV ts 2 p).2.sh n)) = _
 rw [is_sim hs hq]
 by_cases hi : isV ts (nameV ts 2 p).2 opn = true
 · rw [if_pos hi] at h ⊢
   rw [if_pos hi, d3 h]
 · rw [if_neg hi, if_neg hi]
theorem nest_sim (hs : Sees ts ts' n K) (hx : Sim n K ex ex') (hu : Sim n K un un') : Sim n K (nestV ts ex un) (nestV ts' ex' un') := fun p => by
 have d0 := deeper_sim (bracket_sim hs hx) p
 have d1 := deeper_sim (g := tupleV ts ex) (g' := tupleV ts' ex') (row_sim hs hx 5 shut5 e0) p
 have d2 := deeper_sim (g := listV ts ex) (g' := listV ts' ex') (row_sim hs hx 6 shut6 e0) p
 have d3 := deeper_sim (choice_sim hs hx hu) p
 have d4 := deeper_sim (recv_sim hs hx hu) p
 have mono : p.i ≤ (nestV ts ex un p).2.i ∧ (nestV ts ex un p).2.d = p.d := by
  unfold nestV
  split
  · exact d0.1
  split
  · exact d1.1
  split
  · exact d2.1
  split
  · exact d3.1
  split
  · exact d4.1
  · exact ⟨by show p.i ≤ (failV 160 p).i; rw [(fail_i 160 p).1]; exact Nat.le_refl _, (fail_i 160 p).2⟩
 refine ⟨mono, fun h => ?_⟩
 have hp : p.i ≤ K := Nat.le_trans mono.1 h
 unfold nestV at h ⊢
 rw [is_sim hs hp, is_sim hs hp, is_sim hs hp, is_sim hs hp, is_sim hs hp, fail_sh]
 by_cases q0 : isV ts p opn = true
 · rw [if_pos q0] at h ⊢; rw [if_pos q0]; exact d0.2 h
 rw [if_neg q0] at h ⊢; rw [if_neg q0]
 by_cases q1 : isV ts p opn5 = true
 · rw [if_pos q1] at h ⊢; rw [if_pos q1]; exact d1.2 h
 rw [if_neg q1] at h ⊢; rw [if_neg q1]
 by_cases q2 : isV ts p opn6 = true
 · rw [if_pos q2] at h ⊢; rw [if_pos q2]; exact d2.2 h
 rw [if_neg q2] at h ⊢; rw [if_neg q2]
 by_cases q3 : isV ts p wCase = true
 · rw [if_pos q3] at h ⊢; rw [if_pos q3]; exact d3.2 h
 rw [if_neg q3] at h ⊢; rw [if_neg q3]
 by_cases q4 : isV ts p wRecv = true
 · rw [if_pos q4] at h ⊢; rw [if_pos q4]; exact d4.2 h
 rw [if_neg q4, if_neg q4]
theorem prim_sim (hs : Sees ts ts' n K) (hx : Sim n K ex ex') (hu : Sim n K un un') : Sim n K (primV ts ex un) (primV ts' ex' un') := fun p => by
 have v := var_sim hs p
 have a := atom_sim hs hx p
 have t := nest_sim hs hx hu p
 have mono : p.i ≤ (primV ts ex un p).2.i ∧ (primV ts ex un p).2.d = p.d := by
  unfold primV
  split
  · exact ⟨Nat.le_succ _, rfl⟩
  split
  · exact ⟨Nat.le_succ _, rfl⟩
  split
  · exact v.1
  split
  · exact a.1
  · exact t.1
 refine ⟨mono, fun h => ?_⟩
 have hp : p.i ≤ K := Nat.le_trans mono.1 h
 obtain ⟨e1, e2, e3, e4⟩ := hs.pk p hp
 unfold primV at h ⊢
 rw [e1, e3, e4]
 by_cases q1 : (pkT ts p).k = 1
 · rw [if_pos q1, if_pos q1]; rfl
 rw [if_neg q1] at h ⊢; rw [if_neg q1]
 by_cases q2 : (pkT ts p).k = 4
 · rw [if_pos q2, if_pos q2]; rfl
 rw [if_neg q2] at h ⊢; rw [if_neg q2]
 by_cases q3 : (pkT ts p).k = 3
 · rw [if_pos q3] at h ⊢; rw [if_pos q3]; exact v.2 h
 rw [if_neg q3] at h ⊢; rw [if_neg q3]
 by_cases q4 : (pkT ts p).k = 2
 · rw [if_pos q4] at h ⊢; rw [if_pos q4]; exact a.2 h
 rw [if_neg q4] at h ⊢; rw [if_neg q4]
 exact t.2 h
theorem unary_sim (hs : Sees ts ts' n K) (hx : Sim n K ex ex') (hu : Sim n K un un') : Sim n K (unaryV ts ex un) (unaryV ts' ex' un') := fun p => by
 have d := deeper_sim hu p
 have t := prim_sim hs hx hu p
 have mono : p.i ≤ (unaryV ts ex un p).2.i ∧ (unaryV ts ex un p).2.d = p.d := by
  unfold unaryV
  split
  · exact d.1
  · exact t.1
 refine ⟨mono, fun h => ?_⟩
 have hp : p.i ≤ K := Nat.le_trans mono.1 h
 unfold unaryV at h ⊢
 rw [is_sim hs hp]
 by_cases q : isV ts p mns = true
 · rw [if_pos q] at h ⊢
   have h' : (deeperV un p).2.i ≤ K := h
   rw [if_pos q, d.2 h']
 · rw [if_neg q] at h ⊢; rw [if_neg q]; exact t.2 h
theorem any_sim (hs : Sees ts ts' n K) {p : Ps} (h : p.i ≤ K) (sg : List ByteArray) : sg.any (isV ts' (p.sh n)) = sg.any (isV ts p) := by
 congr 1
 funext s
 exact is_sim hs h s
theorem joinL_out {p : Ps} (sg : List ByteArray) (t : Tr) (h : sg.any (isV ts p) = false) : ∀ f, joinL ts sg g f t p = (t, p)
 | 0 => rfl
 | f + 1 => by rw [joinL, h, if_neg (by decide)]
/-- A chain of signs: as many rounds as there are tokens, or one alone. -/
theorem joinL_sim (hs : Sees ts ts' n K) (sg : List ByteArray) (hg : Sim n K g g') : ∀ (f f' : Nat) (t : Tr) (p : Ps), (p.i ≤ (joinL ts sg g f t p).2.i ∧ (joinL ts sg g f t p).2.d = p.d) ∧
 ((f = f' ∨ (f ≤ f' ∧ ts.length ≤ p.i + f)) → (joinL ts sg g f t p).2.i ≤ K → joinL ts' sg g' f' t (p.sh n) = ((joinL ts sg g f t p).1, (joinL ts sg g f t p).2.sh n))
 | 0, f', t, p => by
  refine ⟨⟨Nat.le_refl _, rfl⟩, fun h1 h2 => ?_⟩
  have h2' : p.i ≤ K := h2
  rcases h1 with rfl | ⟨_, h1⟩
  · rfl
  · refine joinL_out sg t ?_ f'
    rw [any_sim hs h2', List.any_eq_false]
    intro s _
    unfold isV
    rw [pk_out (by omega)]
    simp [tn0]
 | f + 1, f', t, p => by
  rw [joinL]
  by_cases hi : sg.any (isV ts p) = true
  ·
   rw [if_pos hi]
   obtain ⟨⟨m1, m2⟩, m3⟩ := hg p.next
   have m1' : p.i + 1 ≤ (g p.next).2.i := m1
   have m2' : (g p.next).2.d = p.d := m2
   obtain ⟨⟨k1, k2⟩, _⟩ := joinL_sim hs sg hg f f (.mk 8 (pkT ts p).s 0 [] [t, (g p.next).1]) (g p.next).2
   refine ⟨⟨by omega, by omega⟩, fun h1 h2 => ?_⟩
   obtain ⟨f', rfl⟩ : ∃ u, f' = u + 1 := ⟨f' - 1, by omega⟩
   have hp : p.i ≤ K := by omega
   have e := (joinL_sim hs sg hg f f' (.mk 8 (pkT ts p).s 0 [] [t, (g p.next).1]) (g p.next).2).2 (by omega) h2
   have e2 := m3 (by omega)
   rw [joinL, any_sim hs hp, if_pos hi, (hs.pk p hp).2.1]
   rw [show (p.sh n).next = p.next.sh n from rfl, e2]
   exact e
  · rw [if_neg hi]
    refine ⟨⟨Nat.le_refl _, rfl⟩, fun _ h2 => ?_⟩
    have h2' : p.i ≤ K := h2
    exact joinL_out sg t (by rw [any_sim hs h2']; simpa using hi) f'
theorem join_sim (hs : Sees ts ts' n K) (sg : List ByteArray) (hg : Sim n K g g') : Sim n K (joinV ts sg g ts.length) (joinV ts' sg g' ts'.length) := fun p => by
 obtain ⟨⟨m1, m2⟩, m3⟩ := hg p
 obtain ⟨⟨k1, k2⟩, k3⟩ := joinL_sim hs sg hg ts.length ts'.length (g p).1 (g p).2
 unfold joinV
 refine ⟨⟨by omega, by omega⟩, fun h => ?_⟩
 rw [m3 (by omega)]
 exact k3 (.inr ⟨hs.len, by omega⟩) h
theorem join1_sim (hs : Sees ts ts' n K) (sg : List ByteArray) (hg : Sim n K g g') (f : Nat) : Sim n K (joinV ts sg g f) (joinV ts' sg g' f) := fun p => by
 obtain ⟨⟨m1, m2⟩, m3⟩ := hg p
 obtain ⟨⟨k1, k2⟩, k3⟩ := joinL_sim hs sg hg f f (g p).1 (g p).2
 unfold joinV
 refine ⟨⟨by omega, by omega⟩, fun h => ?_⟩
 rw [m3 (by omega)]
 exact k3 (.inl rfl) h
theorem expr_sim (hs : Sees ts ts' n K) (hx : Sim n K ex ex') (hg : Sim n K g g') : Sim n K (exprV ts ex g) (exprV ts' ex' g') := fun p => by
 obtain ⟨⟨m1, m2⟩, m3⟩ := hg p
 obtain ⟨⟨d1, d2⟩, d3⟩ := deeper_sim hx (g p).2
 have mono : (g p).2.i ≤ (exprV ts ex g p).2.i ∧ (exprV ts ex g p).2.d = p.d := by
  unfold exprV
  split
  · exact ⟨d1, d2.trans m2⟩
  split
  · exact ⟨d1, d2.trans m2⟩
  · exact ⟨Nat.le_refl _, m2⟩
 refine ⟨⟨Nat.le_trans m1 mono.1, mono.2⟩, fun h => ?_⟩
 have hq : (g p).2.i ≤ K := Nat.le_trans mono.1 h
 unfold exprV at h ⊢
 rw [m3 hq]
 show (if isV ts' ((g p).2.sh n) sEq = true then (.mk 9 e0 0 [] [(g p).1, (deeperV ex' ((g p).2.sh n)).1], (deeperV ex' ((g p).2.sh n)).2) else if isV ts' ((g p).2.sh n) sBang = true then (.mk 10 e0 0 [] [(g p).1, (deeperV ex' ((g p).2.sh n)).1], (deeperV ex' ((g p).2.sh n)).2) else ((g p).1, (g p).2.sh n)) = _
 rw [is_sim hs hq, is_sim hs hq]
 by_cases q1 : isV ts (g p).2 sEq = true
 · rw [if_pos q1] at h ⊢
   have h' : (deeperV ex (g p).2).2.i ≤ K := h
   rw [if_pos q1, d3 h']
 rw [if_neg q1] at h ⊢; rw [if_neg q1]
 by_cases q2 : isV ts (g p).2 sBang = true
 · rw [if_pos q2] at h ⊢
   have h' : (deeperV ex (g p).2).2.i ≤ K := h
   rw [if_pos q2, d3 h']
 rw [if_neg q2, if_neg q2]
theorem exun_sim (hs : Sees ts ts' n K) : ∀ m, Sim n K (exun ts m).1 (exun ts' m).1 ∧ Sim n K (exun ts m).2 (exun ts' m).2
 | 0 => by
  have h : Sim n K (fun p => (tr0, failV 161 p)) (fun p => (tr0, failV 161 p)) := fun p => ⟨⟨by show p.i ≤ (failV 161 p).i; rw [(fail_i 161 p).1]; exact Nat.le_refl _, (fail_i 161 p).2⟩, fun _ => by show (tr0, failV 161 (p.sh n)) = _; rw [fail_sh]⟩
  exact ⟨h, h⟩
 | m + 1 => by
  obtain ⟨hx, hu⟩ := exun_sim hs m
  have hun := unary_sim hs hx hu
  exact ⟨expr_sim hs hx (join1_sim hs sgs0 (join_sim hs sgs1 (join_sim hs sgs2 hun)) 1), hun⟩
/-- A function: its last token is the point. -/
theorem fun_sim (hs : Sees ts ts' n K) (hx : Sim n K ex ex') (p : Ps) : (p.i ≤ (funV ts ex p).2.i ∧ (funV ts ex p).2.d = p.d) ∧ (((arrowV ts ex (parV ts p).2).2.i ≤ K) → funV ts' ex' (p.sh n) = ((funV ts ex p).1, (funV ts ex p).2.sh n)) := by
 obtain ⟨⟨a1, a2⟩, a3⟩ := name_sim hs 2 p
 obtain ⟨⟨b1, b2⟩, b3⟩ := want_sim hs opn (nameV ts 2 p).2
 obtain ⟨⟨c1, c2⟩, c3⟩ := upto_sim hs shutR (var_sim hs) (wantV ts opn (nameV ts 2 p).2)
 have hpar : parV ts p = uptoV ts shutR (varV ts) (wantV ts opn (nameV ts 2 p).2) := rfl
 rw [← hpar] at c1 c2 c3
 obtain ⟨⟨d1, d2⟩, d3⟩ := arrow_sim hs hx (parV ts p).2
 obtain ⟨⟨f1, f2⟩, f3⟩ := want_sim hs dot (arrowV ts ex (parV ts p).2).2
 have hi : (funV ts ex p).2 = wantV ts dot (arrowV ts ex (parV ts p).2).2 := rfl
 refine ⟨⟨by rw [hi]; omega, by rw [hi]; omega⟩, fun h => ?_⟩
 have hpar' : parV ts' (p.sh n) = ((parV ts p).1, (parV ts p).2.sh n) := by
  show uptoV ts' shutR (varV ts') (wantV ts' opn (nameV ts' 2 (p.sh n)).2) = _
  rw [a3 (by omega)]
  show uptoV ts' shutR (varV ts') (wantV ts' opn ((nameV ts 2 p).2.sh n)) = _
  rw [b3 (by omega)]
  exact c3 (by omega)
 unfold funV
 rw [hpar', a3 (by omega)]
 show (Tr.mk 17 (nameV ts 2 p).1 0 [] ((parV ts p).1 ++ [(arrowV ts' ex' ((parV ts p).2.sh n)).1]), wantV ts' dot (arrowV ts' ex' ((parV ts p).2.sh n)).2) = _
 rw [d3 h]
 show (Tr.mk 17 (nameV ts 2 p).1 0 [] ((parV ts p).1 ++ [(arrowV ts ex (parV ts p).2).1]), wantV ts' dot ((arrowV ts ex (parV ts p).2).2.sh n)) = _
 rw [f3 h]
end
end Go.Proofs.YtjedbfbolifjjaaGreatDoor

namespace Go.Proofs.YtjedbfbolifjjaaGreatDoor
section
variable {ts ts' : List Tn} {n K : Nat} {ex ex' : Rule}
theorem sh0 (p : Ps) : p.sh 0 = p := by cases p; simp [Ps.sh]
theorem Sees.refl (ts : List Tn) (K : Nat) : Sees ts ts 0 K := ⟨fun p _ => by rw [sh0]; exact Eqv.refl _, Nat.le_refl _⟩
theorem want_in {s : ByteArray} {p : Ps} (h : (wantV ts s p).e = 0) : p.i < ts.length ∧ wantV ts s p = p.next := by
 unfold wantV at h ⊢
 by_cases hs : isV ts p s = true
 ·
  rw [if_pos hs]
  refine ⟨?_, rfl⟩
  have hk : (pkT ts p).k = 5 ∨ (pkT ts p).k = 6 := by
   unfold isV at hs
   simp only [Bool.and_eq_true, Bool.or_eq_true, beq_iff_eq] at hs
   exact hs.1
  have h0 : (pkT ts p).k ≠ 0 := by rcases hk with e | e <;> rw [e] <;> decide
  exact (List.getElem?_eq_some_iff.1 (pk_at h0).2).1
 · rw [if_neg hs] at h
   exact (fail_no (c := 160) (by decide) h).elim
theorem fun_in {p : Ps} (h : (funV ts ex p).2.e = 0) : (arrowV ts ex (parV ts p).2).2.i < ts.length ∧ (funV ts ex p).2.i = (arrowV ts ex (parV ts p).2).2.i + 1 := by
 have h' : (wantV ts dot (arrowV ts ex (parV ts p).2).2).e = 0 := h
 obtain ⟨h1, h2⟩ := want_in h'
 refine ⟨h1, ?_⟩
 show (wantV ts dot (arrowV ts ex (parV ts p).2).2).i = _
 rw [h2]; rfl
theorem progL_stop {q : Ps} (h : ¬ (q.e = 0 ∧ q.i < ts.length)) (l : List Tr) : ∀ F, progL ts ex F l q = (l, q)
 | 0 => rfl
 | F + 1 => by rw [progL, if_neg h]
theorem progL_e {f : Nat} {l : List Tr} {p : Ps} (h : (progL ts ex f l p).2.e = 0) : p.e = 0 := by
 by_cases he : p.e = 0
 · exact he
 · rw [progL_stop (fun hh => he hh.1)] at h; exact h
theorem progS (hs : Sees ts ts' n K) (hK : ts.length ≤ K + 1) (hl : n + ts.length ≤ ts'.length) (hx : Sim n K ex ex') (L : List Tr) : ∀ (f : Nat) (l : List Tr) (p : Ps), (progL ts ex f l p).2.e = 0 → (p.i ≤ ts.length → (progL ts ex f l p).2.i ≤ ts.length) ∧ (progL ts ex f l p).2.d = p.d ∧
 ∃ k, k ≤ f ∧ k + p.i ≤ (progL ts ex f l p).2.i ∧ ∀ F, progL ts' ex' (F + k) (L ++ l) (p.sh n) = progL ts' ex' F (L ++ (progL ts ex f l p).1) ((progL ts ex f l p).2.sh n)
 | 0, l, p, h => ⟨fun hp => hp, rfl, 0, Nat.le_refl _, Nat.le_of_eq (Nat.zero_add _), fun F => rfl⟩
 | f + 1, l, p, h => by
  rw [progL] at h ⊢
  by_cases hc : p.e = 0 ∧ p.i < ts.length
  ·
   rw [if_pos hc] at h ⊢
   have he := progL_e h
   obtain ⟨h1, h2⟩ := fun_in he
   obtain ⟨⟨m1, m2⟩, m3⟩ := fun_sim hs hx p
   obtain ⟨q1, q2, k, hk, hki, ih⟩ := progS hs hK hl hx L f (l ++ [(funV ts ex p).1]) (funV ts ex p).2 h
   have hpa : p.i ≤ (arrowV ts ex (parV ts p).2).2.i := by
    obtain ⟨⟨a1, _⟩, _⟩ := name_sim hs 2 p
    obtain ⟨⟨b1, _⟩, _⟩ := want_sim hs opn (nameV ts 2 p).2
    obtain ⟨⟨c1, _⟩, _⟩ := upto_sim hs shutR (var_sim hs) (wantV ts opn (nameV ts 2 p).2)
    have hpar : parV ts p = uptoV ts shutR (varV ts) (wantV ts opn (nameV ts 2 p).2) := rfl
    rw [← hpar] at c1
    obtain ⟨⟨d1, _⟩, _⟩ := arrow_sim hs hx (parV ts p).2
    omega
   refine ⟨fun _ => q1 (by omega), by omega, k + 1, by omega, by omega, fun F => ?_⟩
   have hcc : (p.sh n).e = 0 ∧ (p.sh n).i < ts'.length := ⟨hc.1, by show n + p.i < ts'.length; have := hc.2; omega⟩
   rw [show F + (k + 1) = (F + k) + 1 from rfl, progL, if_pos hcc, m3 (by omega), List.append_assoc]
   exact ih F
  · rw [if_neg hc]
    exact ⟨fun hp => hp, rfl, 0, Nat.zero_le _, Nat.le_of_eq (Nat.zero_add _), fun F => rfl⟩
theorem parse_ok {T : Tr} (h : parseV ts = .ok T) : T = .mk 18 e0 0 [] (progV ts (exun ts 41).1 ⟨0, 0, 0⟩).1 ∧ (progV ts (exun ts 41).1 ⟨0, 0, 0⟩).2.e = 0 := by
 unfold parseV at h
 split at h
 · cases h
 · rename_i hh
   cases h
   exact ⟨rfl, by simpa using hh⟩
theorem parse_is (he : (progV ts (exun ts 41).1 ⟨0, 0, 0⟩).2.e = 0) : parseV ts = .ok (.mk 18 e0 0 [] (progV ts (exun ts 41).1 ⟨0, 0, 0⟩).1) := by
 unfold parseV
 rw [if_neg (by simp [he])]
/-- Where Parse ends well it has read all tokens. -/
theorem prog_all (hP : Plain ts) (he : (progV ts (exun ts 41).1 ⟨0, 0, 0⟩).2.e = 0) : (progV ts (exun ts 41).1 ⟨0, 0, 0⟩).2 = ⟨ts.length, 0, 0⟩ := by
 have hx := (exun_sim (Sees.refl ts ts.length) 41).1
 obtain ⟨q1, q2, _⟩ := progS (Sees.refl ts ts.length) (Nat.le_succ _) (by omega) hx [] (2 * ts.length + 1) [] ⟨0, 0, 0⟩ he
 obtain ⟨a1, _, _⟩ := progL_good hP (exun_good hP 41).1 (exun_err 41) (2 * ts.length + 1) [] ⟨0, 0, 0⟩ (by unfold mu; simp) (by rw [yl_nil, yk_same]) (by rw [cnt_nil]; simp) he
 have q1' := q1 (Nat.zero_le _)
 unfold progV at he ⊢
 generalize progL ts (exun ts 41).1 (2 * ts.length + 1) [] ⟨0, 0, 0⟩ = r at *
 obtain ⟨l, ⟨i, d, e⟩⟩ := r
 have e1 : i = ts.length := by
  have h1 : ts.length ≤ i := a1
  have h2 : i ≤ ts.length := q1'
  omega
 have e2 : d = 0 := q2
 have e3 : e = 0 := he
 subst e1 e2 e3
 rfl
theorem parse_join {ts1 ts2 : List Tn} {T U : Tr} (hP1 : Plain ts1) (hP2 : Plain ts2) (h1 : parseV ts1 = .ok T) (h2 : parseV ts2 = .ok U) (hs1 : 0 < ts1.length → Sees ts1 ts' 0 (ts1.length - 1)) (hs2 : Sees ts2 ts' ts1.length ts2.length) (hl : ts'.length = ts1.length + ts2.length) :
 ∃ l1 l2, T = .mk 18 e0 0 [] l1 ∧ U = .mk 18 e0 0 [] l2 ∧ parseV ts' = .ok (.mk 18 e0 0 [] (l1 ++ l2)) := by
 obtain ⟨hT, e1⟩ := parse_ok h1
 obtain ⟨hU, e2⟩ := parse_ok h2
 have a1 := prog_all hP1 e1
 have a2 := prog_all hP2 e2
 refine ⟨_, _, hT, hU, ?_⟩
 have s1 : ∃ k, k ≤ ts1.length ∧ ∀ F, progL ts' (exun ts' 41).1 (F + k) [] ⟨0, 0, 0⟩ = progL ts' (exun ts' 41).1 F (progV ts1 (exun ts1 41).1 ⟨0, 0, 0⟩).1 ((⟨0, 0, 0⟩ : Ps).sh ts1.length) := by
  by_cases hp : 0 < ts1.length
  ·
   have hs := hs1 hp
   obtain ⟨_, _, k, hk, hki, ih⟩ := progS hs (by omega) (by omega) (exun_sim hs 41).1 [] (2 * ts1.length + 1) [] ⟨0, 0, 0⟩ e1
   have hq : (progL ts1 (exun ts1 41).1 (2 * ts1.length + 1) [] ⟨0, 0, 0⟩).2 = ⟨ts1.length, 0, 0⟩ := a1
   rw [hq] at hki ih
   refine ⟨k, by simpa using hki, fun F => ?_⟩
   have := ih F
   rw [sh0, sh0] at this
   exact this
  · have hn : ts1 = [] := List.eq_nil_of_length_eq_zero (by omega)
    subst hn
    exact ⟨0, Nat.zero_le _, fun F => rfl⟩
 obtain ⟨k1, hk1, s1⟩ := s1
 obtain ⟨_, _, k2, hk2, hki2, s2⟩ := progS hs2 (Nat.le_succ _) (by omega) (exun_sim hs2 41).1 (progV ts1 (exun ts1 41).1 ⟨0, 0, 0⟩).1 (2 * ts2.length + 1) [] ⟨0, 0, 0⟩ e2
 have hq : (progL ts2 (exun ts2 41).1 (2 * ts2.length + 1) [] ⟨0, 0, 0⟩).2 = ⟨ts2.length, 0, 0⟩ := a2
 rw [hq] at hki2 s2
 have hki2' : k2 ≤ ts2.length := by simpa using hki2
 have hprog : progV ts' (exun ts' 41).1 ⟨0, 0, 0⟩ = ((progV ts1 (exun ts1 41).1 ⟨0, 0, 0⟩).1 ++ (progV ts2 (exun ts2 41).1 ⟨0, 0, 0⟩).1, ⟨ts1.length + ts2.length, 0, 0⟩) := by
  unfold progV
  obtain ⟨F, hF⟩ : ∃ F, 2 * ts'.length + 1 = F + k2 + k1 := ⟨2 * ts'.length + 1 - k2 - k1, by omega⟩
  rw [hF, s1 (F + k2)]
  have := s2 F
  rw [List.append_nil] at this
  rw [this]
  exact progL_stop (fun hh => absurd hh.2 (by show ¬ ts1.length + ts2.length < ts'.length; omega)) _ F
 have := parse_is (ts := ts') (by rw [hprog])
 rw [hprog] at this
 exact this
end
end Go.Proofs.YtjedbfbolifjjaaGreatDoor
