/-
  Every rule yields what it has read (pure).
-/
import Derived.Test.YtbmbgnmkakkpfaaDoorGW
set_option linter.unusedVariables false
set_option linter.unusedSimpArgs false
namespace Go.Proofs.YtbmbgnmkakkpfaaDoor
section
variable {ts : List Tn} {p : Ps}

theorem deeper_good {c : Nat} {g : Rule} (hg : GoodR ts c g) (p : Ps) (hy : yk ts p.i (p.i + 1) = []) (hp : p.e = 0) (h : (deeperV g p).2.e = 0) :
    p.i + 1 ≤ (deeperV g p).2.i ∧ yl [(deeperV g p).1] = yk ts p.i (deeperV g p).2.i ∧ (preL [(deeperV g p).1]).length + p.i + 1 ≤ (deeperV g p).2.i + c := by
  unfold deeperV at h ⊢
  by_cases hd : p.d = 40
  · rw [if_pos hd] at h
    exfalso
    have h' : (failV 161 p).e = 0 := h
    unfold failV at h'
    rw [if_pos hp] at h'
    exact absurd (show (161 : Int) = 0 from h') (by decide)
  · rw [if_neg hd] at h ⊢
    have h' : (g p.deep).2.e = 0 := h
    obtain ⟨k1, k2, k3, k4⟩ := hg p.deep h'
    have k2' : p.i + 1 ≤ (g p.deep).2.i := k2
    have k4' : (preL [(g p.deep).1]).length + (p.i + 1) ≤ (g p.deep).2.i + c := k4
    show p.i + 1 ≤ (g p.deep).2.i ∧ yl [(g p.deep).1] = yk ts p.i (g p.deep).2.i ∧ (preL [(g p.deep).1]).length + p.i + 1 ≤ (g p.deep).2.i + c
    exact ⟨k2', by rw [yk_skip hy k2']; exact k3, by omega⟩
theorem two_good {T U : Tr} {a b c : Nat} (h1 : a ≤ b) (h2 : b ≤ c) (hT : yl [T] = yk ts a b) (hU : yl [U] = yk ts b c) : yl [T, U] = yk ts a c := by
  rw [show [T, U] = [T] ++ [U] from rfl, yl_app, hT, hU, ← yk_split h1 h2]
theorem cnt_two (T U : Tr) : (preL [T, U]).length = (preL [T]).length + (preL [U]).length := by rw [show [T, U] = [T] ++ [U] from rfl, cnt_app]
theorem clause_good (hP : Plain ts) {ex un : Rule} (hx : GoodR ts 0 ex) (hu : GoodR ts 0 un) : GoodR ts 1 (clauseV ts ex un) := by
  intro p h
  have h' : (arrowV ts ex (un p).2).2.e = 0 := h
  obtain ⟨k1, k2, k3, k4⟩ := arrow_good hP hx _ h'
  obtain ⟨m1, m2, m3, m4⟩ := hu p k1
  show p.e = 0 ∧ p.i ≤ (arrowV ts ex (un p).2).2.i ∧ yl [.mk 15 e0 0 [] [(un p).1, (arrowV ts ex (un p).2).1]] = yk ts p.i (arrowV ts ex (un p).2).2.i ∧ (preL [.mk 15 e0 0 [] [(un p).1, (arrowV ts ex (un p).2).1]]).length + p.i ≤ (arrowV ts ex (un p).2).2.i + 1
  rw [yl_node, cnt_node, it_none (by decide) (by decide), List.nil_append, cnt_two]
  exact ⟨m1, by omega, two_good m2 k2 m3 k3, by omega⟩
theorem bracket_good (hP : Plain ts) {ex : Rule} (hx : GoodR ts 0 ex) : GoodR ts 0 (bracketV ts ex) := by
  intro p h
  have h' : (wantV ts shutR (ex p).2).e = 0 := h
  obtain ⟨h1, h2, h3⟩ := want_at hP h'
  obtain ⟨m1, m2, m3, m4⟩ := hx p h1
  show p.e = 0 ∧ p.i ≤ (wantV ts shutR (ex p).2).i ∧ yl [(ex p).1] = yk ts p.i (wantV ts shutR (ex p).2).i ∧ (preL [(ex p).1]).length + p.i ≤ (wantV ts shutR (ex p).2).i + 0
  rw [h2]
  refine ⟨m1, by show p.i ≤ (ex p).2.i + 1; omega, ?_, by show _ ≤ (ex p).2.i + 1 + 0; omega⟩
  show _ = yk ts p.i ((ex p).2.i + 1)
  rw [yk_split m2 (Nat.le_succ _), m3, show yk ts (ex p).2.i ((ex p).2.i + 1) = [] from h3, List.append_nil]
theorem row_good (hP : Plain ts) {ex : Rule} (hx : GoodR ts 0 ex) (k : Int) (en : ByteArray) (h1 : isNm k = false) (h2 : k ≠ 1) : GoodR ts 0 (fun p => (.mk k e0 0 [] (uptoV ts en ex p).1, (uptoV ts en ex p).2)) := by
  intro p h
  obtain ⟨m1, m2, m3, m4⟩ := upto_good hP en hx p h
  show p.e = 0 ∧ p.i ≤ (uptoV ts en ex p).2.i ∧ yl [.mk k e0 0 [] (uptoV ts en ex p).1] = yk ts p.i (uptoV ts en ex p).2.i ∧ (preL [.mk k e0 0 [] (uptoV ts en ex p).1]).length + p.i ≤ (uptoV ts en ex p).2.i + 0
  rw [yl_node, cnt_node, it_none h1 h2, List.nil_append]
  exact ⟨m1, m2, m3, by omega⟩
theorem choice_good (hP : Plain ts) {ex un : Rule} (hx : GoodR ts 0 ex) (hu : GoodR ts 0 un) : GoodR ts 0 (choiceV ts ex un) := by
  intro p h
  have h' : (wantV ts wEnd (sevV ts sem (clauseV ts ex un) (wantV ts wOf (ex p).2)).2).e = 0 := h
  obtain ⟨a1, a2, a3⟩ := want_at hP h'
  obtain ⟨b1, b2, b3, b4⟩ := sev_good hP sem (by decide) (clause_good hP hx hu) _ a1
  obtain ⟨c1, c2, c3⟩ := want_at hP b1
  obtain ⟨m1, m2, m3, m4⟩ := hx p c1
  unfold choiceV
  show p.e = 0 ∧ p.i ≤ (wantV ts wEnd (sevV ts sem (clauseV ts ex un) (wantV ts wOf (ex p).2)).2).i ∧ yl [.mk 12 e0 0 [] ([(ex p).1] ++ (sevV ts sem (clauseV ts ex un) (wantV ts wOf (ex p).2)).1)] = yk ts p.i (wantV ts wEnd (sevV ts sem (clauseV ts ex un) (wantV ts wOf (ex p).2)).2).i ∧ (preL [.mk 12 e0 0 [] ([(ex p).1] ++ (sevV ts sem (clauseV ts ex un) (wantV ts wOf (ex p).2)).1)]).length + p.i ≤ (wantV ts wEnd (sevV ts sem (clauseV ts ex un) (wantV ts wOf (ex p).2)).2).i + 0
  rw [a2]
  rw [yl_node, cnt_node, it_none (by decide) (by decide), List.nil_append, cnt_app, yl_app]
  rw [c2] at b2 b3 b4 a3 ⊢
  generalize sevV ts sem (clauseV ts ex un) (ex p).2.next = r at b2 b3 b4 a3 ⊢
  have b2' : (ex p).2.i + 1 ≤ r.2.i := b2
  have b4' : (preL r.1).length + ((ex p).2.i + 1) ≤ r.2.i + 1 := b4
  have b3' : yl r.1 = yk ts ((ex p).2.i + 1) r.2.i := b3
  refine ⟨m1, by show p.i ≤ r.2.i + 1; omega, ?_, by show _ ≤ r.2.i + 1 + 0; omega⟩
  show _ = yk ts p.i (r.2.i + 1)
  rw [m3, b3', yk_split (ts := ts) (a := p.i) (b := r.2.i) (c := r.2.i + 1) (by omega) (Nat.le_succ _), a3, List.append_nil, yk_split (ts := ts) (a := p.i) (b := (ex p).2.i) (c := r.2.i) m2 (by omega), yk_skip c3 b2']
/-- What receive tells ahead of its end. -/
theorem raft_good (hP : Plain ts) {ex un : Rule} (hx : GoodR ts 0 ex) (hu : GoodR ts 0 un) (p : Ps) (h : (raftV ts ex (rclV ts ex un p)).2.e = 0) :
    p.e = 0 ∧ p.i ≤ (raftV ts ex (rclV ts ex un p)).2.i ∧ yl (raftV ts ex (rclV ts ex un p)).1 = yk ts p.i (raftV ts ex (rclV ts ex un p)).2.i ∧ (preL (raftV ts ex (rclV ts ex un p)).1).length + p.i ≤ (raftV ts ex (rclV ts ex un p)).2.i + 1 := by
  have hcl : ∀ q, q = rclV ts ex un p → q.2.e = 0 → p.e = 0 ∧ p.i ≤ q.2.i ∧ yl q.1 = yk ts p.i q.2.i ∧ (preL q.1).length + p.i ≤ q.2.i + 1 := by
    intro q hq he
    subst hq
    unfold rclV at he ⊢
    by_cases hs : isV ts p wAft = true
    · rw [if_pos hs] at he ⊢
      exact ⟨he, Nat.le_refl _, by show yl [] = yk ts p.i p.i; rw [yl_nil, yk_same], by show (preL []).length + p.i ≤ p.i + 1; rw [cnt_nil]; omega⟩
    · rw [if_neg hs] at he ⊢
      exact sev_good hP sem (by decide) (clause_good hP hx hu) p he
  generalize hq : rclV ts ex un p = q at h ⊢
  unfold raftV at h ⊢
  by_cases hs : isV ts q.2 wAft = true
  · rw [if_pos hs] at h ⊢
    obtain ⟨he, hy⟩ := is_at hP hs
    have h' : (arrowV ts ex (ex q.2.next).2).2.e = 0 := h
    obtain ⟨k1, k2, k3, k4⟩ := arrow_good hP hx _ h'
    obtain ⟨m1, m2, m3, m4⟩ := hx _ k1
    obtain ⟨b1, b2, b3, b4⟩ := hcl q hq.symm he
    have m2' : q.2.i + 1 ≤ (ex q.2.next).2.i := m2
    have m3' : yl [(ex q.2.next).1] = yk ts (q.2.i + 1) (ex q.2.next).2.i := m3
    have m4' : (preL [(ex q.2.next).1]).length + (q.2.i + 1) ≤ (ex q.2.next).2.i + 0 := m4
    show p.e = 0 ∧ p.i ≤ (arrowV ts ex (ex q.2.next).2).2.i ∧ yl (q.1 ++ [.mk 14 e0 0 [] [(ex q.2.next).1, (arrowV ts ex (ex q.2.next).2).1]]) = yk ts p.i (arrowV ts ex (ex q.2.next).2).2.i ∧ (preL (q.1 ++ [.mk 14 e0 0 [] [(ex q.2.next).1, (arrowV ts ex (ex q.2.next).2).1]])).length + p.i ≤ (arrowV ts ex (ex q.2.next).2).2.i + 1
    rw [yl_app, cnt_app, yl_node, cnt_node, it_none (by decide) (by decide), List.nil_append, cnt_two, two_good m2' k2 m3' k3, b3]
    refine ⟨b1, by omega, ?_, by omega⟩
    rw [← yk_skip hy (Nat.le_trans m2' k2), ← yk_split b2 (by omega)]
  · rw [if_neg hs] at h ⊢
    exact hcl q hq.symm h
theorem recv_good (hP : Plain ts) {ex un : Rule} (hx : GoodR ts 0 ex) (hu : GoodR ts 0 un) : GoodR ts 1 (recvV ts ex un) := by
  intro p h
  have h' : (wantV ts wEnd (raftV ts ex (rclV ts ex un p)).2).e = 0 := h
  obtain ⟨a1, a2, a3⟩ := want_at hP h'
  obtain ⟨b1, b2, b3, b4⟩ := raft_good hP hx hu p a1
  show p.e = 0 ∧ p.i ≤ (wantV ts wEnd (raftV ts ex (rclV ts ex un p)).2).i ∧ yl [.mk 13 e0 0 [] (raftV ts ex (rclV ts ex un p)).1] = yk ts p.i (wantV ts wEnd (raftV ts ex (rclV ts ex un p)).2).i ∧ (preL [.mk 13 e0 0 [] (raftV ts ex (rclV ts ex un p)).1]).length + p.i ≤ (wantV ts wEnd (raftV ts ex (rclV ts ex un p)).2).i + 1
  rw [a2, yl_node, cnt_node, it_none (by decide) (by decide), List.nil_append]
  generalize raftV ts ex (rclV ts ex un p) = r at b2 b3 b4 a3 ⊢
  refine ⟨b1, by show p.i ≤ r.2.i + 1; omega, ?_, by show _ ≤ r.2.i + 1 + 1; omega⟩
  show _ = yk ts p.i (r.2.i + 1)
  rw [b3, yk_split (ts := ts) (a := p.i) (b := r.2.i) (c := r.2.i + 1) b2 (Nat.le_succ _), a3, List.append_nil]
theorem atom_good (hP : Plain ts) {ex : Rule} (hx : GoodR ts 0 ex) : GoodR ts 0 (atomV ts ex) := by
  intro p h
  unfold atomV at h ⊢
  by_cases hs : isV ts (nameV ts 2 p).2 opn = true
  · rw [if_pos hs] at h ⊢
    obtain ⟨he, hy⟩ := is_at hP hs
    obtain ⟨n1, n2, n3⟩ := name_at hP (.inl rfl) he
    rw [n2] at h hy he ⊢
    generalize (nameV ts 2 p).1 = nm at h n3 ⊢
    have hcall : ∀ q : Ps, (callV ts nm ex q).2.e = 0 → q.e = 0 ∧ q.i ≤ (callV ts nm ex q).2.i ∧ yl (uptoV ts shutR ex q).1 = yk ts q.i (callV ts nm ex q).2.i ∧ (preL (uptoV ts shutR ex q).1).length + q.i + 1 ≤ (callV ts nm ex q).2.i := fun q hq => upto_good hP shutR hx q hq
    unfold deeperV at h ⊢
    by_cases hd : p.next.d = 40
    · rw [if_pos hd] at h
      exfalso
      have h' : (failV 161 p.next).e = 0 := h
      unfold failV at h'
      rw [if_pos he] at h'
      exact absurd (show (161 : Int) = 0 from h') (by decide)
    · rw [if_neg hd] at h ⊢
      have h' : (callV ts nm ex p.next.deep).2.e = 0 := h
      obtain ⟨k1, k2, k3, k4⟩ := hcall _ h'
      have k2' : p.i + 1 + 1 ≤ (callV ts nm ex p.next.deep).2.i := k2
      have k4' : (preL (uptoV ts shutR ex p.next.deep).1).length + (p.i + 1 + 1) + 1 ≤ (callV ts nm ex p.next.deep).2.i := k4
      have k3' : yl (uptoV ts shutR ex p.next.deep).1 = yk ts (p.i + 1 + 1) (callV ts nm ex p.next.deep).2.i := k3
      have hy' : yk ts (p.i + 1) (p.i + 1 + 1) = [] := hy
      show p.e = 0 ∧ p.i ≤ (callV ts nm ex p.next.deep).2.i ∧ yl [.mk 11 nm 0 [] (uptoV ts shutR ex p.next.deep).1] = yk ts p.i (callV ts nm ex p.next.deep).2.i ∧ (preL [.mk 11 nm 0 [] (uptoV ts shutR ex p.next.deep).1]).length + p.i ≤ (callV ts nm ex p.next.deep).2.i + 0
      rw [yl_node, cnt_node, k3']
      refine ⟨n1, by omega, ?_, by omega⟩
      rw [yk_split (ts := ts) (a := p.i) (b := p.i + 1) (c := (callV ts nm ex p.next.deep).2.i) (by omega) (by omega), n3, yk_skip hy' k2']
      simp [itT, isNm, itB]
  · rw [if_neg hs] at h ⊢
    have h' : (nameV ts 2 p).2.e = 0 := h
    obtain ⟨n1, n2, n3⟩ := name_at hP (.inl rfl) h'
    show p.e = 0 ∧ p.i ≤ (nameV ts 2 p).2.i ∧ yl [.mk 2 (nameV ts 2 p).1 0 [] []] = yk ts p.i (nameV ts 2 p).2.i ∧ (preL [.mk 2 (nameV ts 2 p).1 0 [] []]).length + p.i ≤ (nameV ts 2 p).2.i + 0
    rw [yl_node, cnt_node, cnt_nil, yl_nil, n2]
    refine ⟨n1, Nat.le_succ _, ?_, by show 1 + 0 + p.i ≤ p.i + 1 + 0; omega⟩
    show _ = yk ts p.i (p.i + 1)
    rw [n3]
    simp [itT, isNm, itB]
theorem nest_good (hP : Plain ts) {ex un : Rule} (hx : GoodR ts 0 ex) (hu : GoodR ts 0 un) : GoodR ts 0 (nestV ts ex un) := by
  intro p h
  have key : ∀ (s : ByteArray) (g : Rule), GoodR ts 1 g → isV ts p s = true → (deeperV g p).2.e = 0 → p.e = 0 ∧ p.i ≤ (deeperV g p).2.i ∧ yl [(deeperV g p).1] = yk ts p.i (deeperV g p).2.i ∧ (preL [(deeperV g p).1]).length + p.i ≤ (deeperV g p).2.i + 0 := by
    intro s g hg hs he
    obtain ⟨h1, h2⟩ := is_at hP hs
    obtain ⟨k1, k2, k3⟩ := deeper_good hg p h2 h1 he
    exact ⟨h1, by omega, k2, by omega⟩
  have up : ∀ {g : Rule}, GoodR ts 0 g → GoodR ts 1 g := fun hg p h => by obtain ⟨a, b, c, d⟩ := hg p h; exact ⟨a, b, c, by omega⟩
  unfold nestV at h ⊢
  by_cases q0 : isV ts p opn = true
  · rw [if_pos q0] at h ⊢; exact key _ _ (up (bracket_good hP hx)) q0 h
  rw [if_neg q0] at h ⊢
  by_cases q1 : isV ts p opn5 = true
  · rw [if_pos q1] at h ⊢; exact key _ _ (up (row_good hP hx 5 shut5 (by decide) (by decide))) q1 h
  rw [if_neg q1] at h ⊢
  by_cases q2 : isV ts p opn6 = true
  · rw [if_pos q2] at h ⊢; exact key _ _ (up (row_good hP hx 6 shut6 (by decide) (by decide))) q2 h
  rw [if_neg q2] at h ⊢
  by_cases q3 : isV ts p wCase = true
  · rw [if_pos q3] at h ⊢; exact key _ _ (up (choice_good hP hx hu)) q3 h
  rw [if_neg q3] at h ⊢
  by_cases q4 : isV ts p wRecv = true
  · rw [if_pos q4] at h ⊢; exact key _ _ (recv_good hP hx hu) q4 h
  rw [if_neg q4] at h
  exfalso
  have h' : (failV 160 p).e = 0 := h
  unfold failV at h'
  by_cases he : p.e = 0
  · rw [if_pos he] at h'; exact absurd (show (160 : Int) = 0 from h') (by decide)
  · rw [if_neg he] at h'; exact he h'
theorem prim_good (hP : Plain ts) {ex un : Rule} (hx : GoodR ts 0 ex) (hu : GoodR ts 0 un) : GoodR ts 0 (primV ts ex un) := by
  intro p h
  unfold primV at h ⊢
  by_cases k1 : (pkT ts p).k = 1
  · rw [if_pos k1] at h ⊢
    obtain ⟨he, ht⟩ := pk_at (ts := ts) (p := p) (by rw [k1]; decide)
    refine ⟨he, Nat.le_succ _, ?_, ?_⟩
    · show yl [.mk 1 e0 (pkT ts p).n [] []] = yk ts p.i (p.i + 1)
      rw [yl_node, yl_nil, yk_one ht]
      have hb : (pkT ts p).b = [] := hP _ (List.mem_of_getElem? ht) (by rw [k1]; decide)
      simp [itT, itK, isNm, itB, k1, hb]
    · show (preL [.mk 1 e0 (pkT ts p).n [] []]).length + p.i ≤ p.i + 1 + 0
      rw [cnt_node, cnt_nil]; omega
  rw [if_neg k1] at h ⊢
  by_cases k4 : (pkT ts p).k = 4
  · rw [if_pos k4] at h ⊢
    obtain ⟨he, ht⟩ := pk_at (ts := ts) (p := p) (by rw [k4]; decide)
    refine ⟨he, Nat.le_succ _, ?_, ?_⟩
    · show yl [.mk 4 e0 0 (pkT ts p).b []] = yk ts p.i (p.i + 1)
      rw [yl_node, yl_nil, yk_one ht]
      simp [itT, itK, isNm, k4]
    · show (preL [.mk 4 e0 0 (pkT ts p).b []]).length + p.i ≤ p.i + 1 + 0
      rw [cnt_node, cnt_nil]; omega
  rw [if_neg k4] at h ⊢
  by_cases k3 : (pkT ts p).k = 3
  · rw [if_pos k3] at h ⊢; exact var_good hP p h
  rw [if_neg k3] at h ⊢
  by_cases k2 : (pkT ts p).k = 2
  · rw [if_pos k2] at h ⊢; exact atom_good hP hx p h
  rw [if_neg k2] at h ⊢
  exact nest_good hP hx hu p h
theorem unary_good (hP : Plain ts) {ex un : Rule} (hx : GoodR ts 0 ex) (hu : GoodR ts 0 un) : GoodR ts 0 (unaryV ts ex un) := by
  intro p h
  unfold unaryV at h ⊢
  by_cases hs : isV ts p mns = true
  · rw [if_pos hs] at h ⊢
    have h' : (deeperV un p).2.e = 0 := h
    obtain ⟨h1, h2⟩ := is_at hP hs
    obtain ⟨k1, k2, k3⟩ := deeper_good hu p h2 h1 h'
    show p.e = 0 ∧ p.i ≤ (deeperV un p).2.i ∧ yl [.mk 7 e0 0 [] [(deeperV un p).1]] = yk ts p.i (deeperV un p).2.i ∧ (preL [.mk 7 e0 0 [] [(deeperV un p).1]]).length + p.i ≤ (deeperV un p).2.i + 0
    rw [yl_node, cnt_node, it_none (by decide) (by decide), List.nil_append]
    exact ⟨h1, by omega, k2, by omega⟩
  · rw [if_neg hs] at h ⊢
    exact prim_good hP hx hu p h
theorem any_at (hP : Plain ts) {sg : List ByteArray} (h : sg.any (isV ts p) = true) : p.e = 0 ∧ yk ts p.i (p.i + 1) = [] := by
  obtain ⟨s, _, hs⟩ := List.any_eq_true.1 h
  exact is_at hP hs
theorem it_bin (s : ByteArray) (l : List Tr) : itT (.mk 8 s 0 [] l) = [] := by simp [itT, isNm, itB]
theorem joinL_good (hP : Plain ts) {g : Rule} (hg : GoodR ts 0 g) (sg : List ByteArray) : ∀ (f : Nat) (a : Nat) (t : Tr) (p : Ps), a ≤ p.i → yl [t] = yk ts a p.i → (preL [t]).length + a ≤ p.i → (joinL ts sg g f t p).2.e = 0 →
    p.e = 0 ∧ p.i ≤ (joinL ts sg g f t p).2.i ∧ yl [(joinL ts sg g f t p).1] = yk ts a (joinL ts sg g f t p).2.i ∧ (preL [(joinL ts sg g f t p).1]).length + a ≤ (joinL ts sg g f t p).2.i
  | 0, a, t, p, h1, h2, h3, h => ⟨h, Nat.le_refl _, h2, h3⟩
  | f + 1, a, t, p, h1, h2, h3, h => by
    rw [joinL] at h ⊢
    by_cases hs : sg.any (isV ts p) = true
    · rw [if_pos hs] at h ⊢
      obtain ⟨he, hy⟩ := any_at hP hs
      by_cases hge : (g p.next).2.e = 0
      · obtain ⟨k1, k2, k3, k4⟩ := hg p.next hge
        have k2' : p.i + 1 ≤ (g p.next).2.i := k2
        have k3' : yl [(g p.next).1] = yk ts (p.i + 1) (g p.next).2.i := k3
        have k4' : (preL [(g p.next).1]).length + (p.i + 1) ≤ (g p.next).2.i + 0 := k4
        have hn : yl [.mk 8 (pkT ts p).s 0 [] [t, (g p.next).1]] = yk ts a (g p.next).2.i := by
          rw [yl_node, it_bin, List.nil_append]
          refine two_good h1 (by omega) h2 ?_
          rw [k3', yk_skip hy k2']
        obtain ⟨m1, m2, m3, m4⟩ := joinL_good hP hg sg f a _ _ (by omega) hn (by rw [cnt_node, cnt_two]; omega) h
        exact ⟨he, by omega, m3, m4⟩
      · exfalso
        have : (joinL ts sg g f (.mk 8 (pkT ts p).s 0 [] [t, (g p.next).1]) (g p.next).2).2 = (g p.next).2 := by
          cases f with
          | zero => rfl
          | succ f => rw [joinL, any_err hge, if_neg (by decide)]
        rw [this] at h
        exact hge h
    · rw [if_neg hs] at h ⊢
      exact ⟨h, Nat.le_refl _, h2, h3⟩
theorem join_good (hP : Plain ts) {g : Rule} (hg : GoodR ts 0 g) (hst : Stuck g) (sg : List ByteArray) (f : Nat) : GoodR ts 0 (joinV ts sg g f) := by
  intro p h
  unfold joinV at h ⊢
  by_cases hge : (g p).2.e = 0
  · obtain ⟨k1, k2, k3, k4⟩ := hg p hge
    obtain ⟨m1, m2, m3, m4⟩ := joinL_good hP hg sg f p.i (g p).1 (g p).2 k2 k3 (by omega) h
    exact ⟨k1, by omega, m3, by omega⟩
  · exfalso
    have : (joinL ts sg g f (g p).1 (g p).2).2 = (g p).2 := by
      cases f with
      | zero => rfl
      | succ f => rw [joinL, any_err hge, if_neg (by decide)]
    rw [this] at h
    exact hge h
theorem expr_good (hP : Plain ts) {ex jn : Rule} (hx : GoodR ts 0 ex) (hj : GoodR ts 0 jn) : GoodR ts 0 (exprV ts ex jn) := by
  intro p h
  have key : ∀ (k : Int) (s : ByteArray), isNm k = false → k ≠ 1 → isV ts (jn p).2 s = true → (deeperV ex (jn p).2).2.e = 0 → p.e = 0 ∧ p.i ≤ (deeperV ex (jn p).2).2.i ∧ yl [.mk k e0 0 [] [(jn p).1, (deeperV ex (jn p).2).1]] = yk ts p.i (deeperV ex (jn p).2).2.i ∧ (preL [.mk k e0 0 [] [(jn p).1, (deeperV ex (jn p).2).1]]).length + p.i ≤ (deeperV ex (jn p).2).2.i + 0 := by
    intro k s h1 h2 hs he
    obtain ⟨a1, a2⟩ := is_at hP hs
    obtain ⟨b1, b2, b3, b4⟩ := hj p a1
    obtain ⟨k1, k2, k3⟩ := deeper_good hx (jn p).2 a2 a1 he
    rw [yl_node, cnt_node, it_none h1 h2, List.nil_append, cnt_two]
    exact ⟨b1, by omega, two_good b2 (by omega) b3 k2, by omega⟩
  unfold exprV at h ⊢
  by_cases q1 : isV ts (jn p).2 sEq = true
  · rw [if_pos q1] at h ⊢; exact key 9 _ (by decide) (by decide) q1 h
  rw [if_neg q1] at h ⊢
  by_cases q2 : isV ts (jn p).2 sBang = true
  · rw [if_pos q2] at h ⊢; exact key 10 _ (by decide) (by decide) q2 h
  rw [if_neg q2] at h ⊢
  exact hj p h
end
end Go.Proofs.YtbmbgnmkakkpfaaDoor
