/-
  DgramKeeps: what was sent, what is near to it, what is taken.
-/
import Derived.Test.YtjffhnpoipolfaaS
set_option linter.unusedVariables false
set_option linter.unusedSimpArgs false
namespace Go.Proofs.Ytjffhnpoipolfaa
open Go.RowKit Go.Maps Go.WideMaps
variable {S S' : Nat → Prop} {W W1 W' : World}

/-- The same bytes; or, spoilt, but for four in a row. -/
def Nr (l l' : List Nat) (sp : Bool) : Prop := l'.length = l.length ∧ (sp = false → l' = l) ∧ (sp = true → ∃ k, ∀ j, l.getD j 0 ≠ l'.getD j 0 → k ≤ j ∧ j < k + 4)
theorem tur_near (l : List Nat) (k m : Nat) : ∀ r j, (tur l k m r).getD j 0 ≠ l.getD j 0 → k ≤ j ∧ j < k + r := by
  intro r
  induction r with
  | zero => intro j h; exact absurd rfl h
  | succ r ih =>
    intro j h
    simp only [tur] at h
    by_cases e : k + r = j
    · omega
    · rw [List.getD_eq_getElem?_getD, List.getElem?_set_ne e, ← List.getD_eq_getElem?_getD] at h
      have := ih j h
      omega
theorem nr_spoil {l l' : List Nat} (h : Nr l l' false) (k m : Nat) : Nr l (tur l' k m (min 4 (l'.length - k))) true := by
  have e := h.2.1 rfl
  subst e
  refine ⟨by rw [tur_len], (fun e => by cases e), fun _ => ⟨k, fun j hj => ?_⟩⟩
  have := tur_near l' k m _ j (Ne.symm hj)
  omega
set_option maxRecDepth 20000 in
set_option maxHeartbeats 1600000 in
theorem near_c (W : World) (v v' : Value) (l l' : List Nat) (sp : Bool) (h : Sl W v l) (h' : Sl W v' l') (hn : Nr l l' sp) : Calls Try.prog 20 #[v, v', .bool sp] W fun e w' => e = .returned (.bool true) ∧ G0 W w' := by
  obtain ⟨hlen, hn1, hn2⟩ := hn
  have ex : ∀ {v : Value} {l : List Nat}, Sl W v l → ∃ a cap, v = .slice a l.length cap ∧ l.length ≤ cap ∧ cap ≤ 9223372036854775807 ∧ ∀ i, i < l.length → ∃ b off, a = some ⟨b, off, none⟩ ∧ W.cell? ⟨b, off + i, none⟩ = some (.int .u8 ((l.getD i 0 : Nat) : Int)) := by
    intro v l h
    rcases h.at' with ⟨rfl, rfl⟩ | ⟨a, cap, rfl, h1, h2, h3⟩
    · exact ⟨none, 0, rfl, Nat.le_refl _, by omega, fun i hi => by simp at hi⟩
    · refine ⟨some a, cap, rfl, h1, h2, fun i hi => ?_⟩
      obtain ⟨b, off, spot⟩ := a
      have hs : spot = none := by simpa [Addr.add] using World.cell?_spot (h3 0 (by omega))
      subst hs
      exact ⟨b, off, rfl, by simpa [Addr.add_lit] using h3 i hi⟩
  obtain ⟨a, cap, rfl, c1, c2, hc⟩ := ex h
  obtain ⟨a', cap', rfl, c1', c2', hc'⟩ := ex h'
  have hl : (l.length : Int) ≤ 140737488355328 := by have := h.len; omega
  rw [hlen] at *
  have Hn1 := Lib.hid hn1
  have Hn2 := Lib.hid hn2
  clear hn1 hn2 h h' ex hlen
  go_enter Try.func20, Try.ntmps20
  go_wp2_with fail
  go_loopw [7, 8, 9] (fun x y z wr => ∃ i : Nat, i ≤ l.length ∧ z = .int .i64 (i : Int) ∧ G0 W wr ∧ ((x = .int .i64 (-1) ∧ y = .int .i64 (-1)) ∨ ∃ f0 l0 : Nat, x = .int .i64 (f0 : Int) ∧ y = .int .i64 (l0 : Int) ∧ f0 ≤ l0 ∧ l0 < i ∧ l.getD f0 0 ≠ l'.getD f0 0 ∧ l.getD l0 0 ≠ l'.getD l0 0)) (fun _ _ z _ => l.length - (intOf z).toNat)
  case atStart => exact ⟨0, Nat.zero_le _, rfl, Gr.refl _ _, .inl ⟨rfl, rfl⟩⟩
  case round =>
    obtain ⟨i, hi, rfl, hg, hfl⟩ := hrel
    by_cases hlt : i < l.length
    · obtain ⟨b, off, rfl, e1⟩ := hc i hlt
      obtain ⟨b', off', rfl, e2⟩ := hc' i hlt
      have g1 := cell_g0 e1 hg
      have g2 := cell_g0 e2 hg
      have hI : (i : Int) < (l.length : Int) := by omega
      clear hc hc' e1 e2
      obtain ⟨x, hx⟩ : ∃ x, l.getD i 0 = x := ⟨_, rfl⟩
      obtain ⟨y, hy⟩ : ∃ y, l'.getD i 0 = y := ⟨_, rfl⟩
      have hxy : ¬ x = y → l.getD i 0 ≠ l'.getD i 0 := fun h => by rw [hx, hy]; exact h
      have Hxy := Lib.hid hxy
      rw [hx] at g1
      rw [hy] at g2
      have Hg := Lib.hid hg
      clear hx hy hxy hg
      by_cases hq : x = y
      · subst hq
        have Hfl := Lib.hid hfl
        clear hfl
        go_wp2_with fail
        go_region
        go_wp2_with fail
        refine ⟨⟨i + 1, by omega, by go_num, Hg.out.trans (Gr.drew _ _), ?_⟩, by simp [intOf]; omega⟩
        rcases Hfl.out with h | ⟨f0, l0, e1, e2, h1, h2, h3⟩
        · exact .inl h
        · exact .inr ⟨f0, l0, e1, e2, h1, by omega, h3⟩
      · have hqI : ((x : Int) == (y : Int)) = false := beq_eq_false_iff_ne.2 (by omega)
        have hqI2 : ¬ (x : Int) = (y : Int) := by omega
        rcases hfl with ⟨rfl, rfl⟩ | ⟨f0, l0, rfl, rfl, h1, h2, h3⟩
        · go_wp2_with fail
          go_region
          go_wp2_with fail
          exact ⟨⟨i + 1, by omega, by go_num, Hg.out.trans (Gr.drew _ _), .inr ⟨i, i, rfl, rfl, Nat.le_refl _, by omega, Hxy.out hq, Hxy.out hq⟩⟩, by simp [intOf]; omega⟩
        · have h3a := Lib.hid h3.1
          clear h3
          go_wp2_with fail
          go_region
          go_wp2_with fail
          exact ⟨⟨i + 1, by omega, by go_num, Hg.out.trans (Gr.drew _ _), .inr ⟨f0, i, rfl, rfl, by omega, by omega, h3a.out, Hxy.out hq⟩⟩, by simp [intOf]; omega⟩
    · have hI : ¬ (i : Int) < (l.length : Int) := by omega
      have Hg := Lib.hid hg
      clear hg hc hc'
      rcases hfl with ⟨rfl, rfl⟩ | ⟨f0, l0, rfl, rfl, h1, h2, h3, h4⟩
      · go_wp2
        go_ret
        exact ⟨rfl, Hg.out⟩
      · cases sp with
        | false => exact absurd (by rw [Hn1.out rfl]) h3
        | true =>
          obtain ⟨k, hk⟩ := Hn2.out rfl
          have b1 := hk f0 h3
          have b2 := hk l0 h4
          have hd : (l0 : Int) - (f0 : Int) < 4 := by omega
          have hfI : (f0 : Int) ≤ 140737488355328 := by omega
          have hlI : (l0 : Int) ≤ 140737488355328 := by omega
          clear hk b1 b2 h3 h4
          go_wp2
          go_ret
          exact ⟨rfl, Hg.out⟩
/-! ### What holds of what is on its way -/
structure Kp (s : Ns) (sn : List Opd) (tw : Bool) (tk : List Nat) : Prop where
  len : sn.length = s.sent
  was : ∀ i, ∀ d ∈ s.q i, ∃ o, sn[d.n - 1]? = some o ∧ o.f = d.f ∧ o.t = d.t ∧ Nr o.l d.by' d.sp
  old : ∀ x ∈ tk, x ≤ s.sent
  nod : tw = false → ∀ i, ((s.q i).map Dg.n).Nodup
  uni : tw = false → ∀ i j, i ≠ j → ∀ d ∈ s.q i, ∀ e ∈ s.q j, d.n ≠ e.n
  out : tw = false → ∀ i, ∀ d ∈ s.q i, d.n ∉ tk
/-- A queue has turned into a part of itself. -/
theorem Kp.less {s s' : Ns} {sn : List Opd} {tw : Bool} {tk : List Nat} (h : Kp s sn tw tk) {j : Option Int} {l : List Dg} (hl : l.Sublist (s.q j)) (hs : s'.sent = s.sent) (hq : s'.q = upd s.q j l) : Kp s' sn tw tk := by
  have hm : ∀ i, ∀ d ∈ s'.q i, d ∈ s.q i := by
    intro i d hd
    rw [hq] at hd
    by_cases e : i = j
    · subst e; rw [upd_same] at hd; exact hl.subset hd
    · rwa [upd_other _ _ e] at hd
  refine ⟨h.len.trans hs.symm, fun i d hd => h.was i d (hm i d hd), fun x hx => hs ▸ h.old x hx, fun ht i => ?_, fun ht i k hik d hd e he => h.uni ht i k hik d (hm i d hd) e (hm k e he), fun ht i d hd => h.out ht i d (hm i d hd)⟩
  rw [hq]
  by_cases e : i = j
  · subst e; rw [upd_same]; exact (h.nod ht i).sublist (hl.map _)
  · rw [upd_other _ _ e]; exact h.nod ht i
theorem Kp.more {s s' : Ns} {sn : List Opd} {tw : Bool} {tk : List Nat} (h : Kp s sn tw tk) {j : Option Int} {D : Dg} (hs : s'.sent = s.sent) (hq : s'.q = upd s.q j (s.q j ++ [D])) (hD : ∃ o, sn[D.n - 1]? = some o ∧ o.f = D.f ∧ o.t = D.t ∧ Nr o.l D.by' D.sp)
    (hn : tw = false → (∀ i, ∀ d ∈ s.q i, d.n ≠ D.n) ∧ D.n ∉ tk) : Kp s' sn tw tk := by
  have hm : ∀ i, ∀ d ∈ s'.q i, d ∈ s.q i ∨ (d = D ∧ i = j) := by
    intro i d hd
    rw [hq] at hd
    by_cases e : i = j
    · subst e; rw [upd_same] at hd
      rcases List.mem_append.1 hd with hd | hd
      · exact .inl hd
      · exact .inr ⟨by simpa using hd, rfl⟩
    · rw [upd_other _ _ e] at hd; exact .inl hd
  refine ⟨h.len.trans hs.symm, fun i d hd => ?_, fun x hx => hs ▸ h.old x hx, fun ht i => ?_, fun ht i k hik d hd e he => ?_, fun ht i d hd => ?_⟩
  · rcases hm i d hd with hd | ⟨rfl, _⟩
    · exact h.was i d hd
    · exact hD
  · rw [hq]
    by_cases e : i = j
    · subst e; rw [upd_same, List.map_append, List.nodup_append]
      refine ⟨h.nod ht i, by simp, fun x hx y hy => ?_⟩
      simp only [List.map_cons, List.map_nil, List.mem_singleton] at hy
      obtain ⟨d, hd, rfl⟩ := List.mem_map.1 hx
      subst hy
      exact (hn ht).1 i d hd
    · rw [upd_other _ _ e]; exact h.nod ht i
  · rcases hm i d hd with hd | ⟨rfl, rfl⟩ <;> rcases hm k e he with he | ⟨rfl, rfl⟩
    · exact h.uni ht i k hik d hd e he
    · exact (hn ht).1 i d hd
    · exact fun e2 => (hn ht).1 k e he e2.symm
    · exact absurd rfl hik
  · rcases hm i d hd with hd | ⟨rfl, _⟩
    · exact h.out ht i d hd
    · exact (hn ht).2
theorem Kp.twin {s : Ns} {sn : List Opd} {tw : Bool} {tk : List Nat} (h : Kp s sn tw tk) : Kp s sn true tk := ⟨h.len, h.was, h.old, fun e => by (cases e), fun e => by (cases e), fun e => by (cases e)⟩
theorem nodup_cut_n {l : List Dg} (h : (l.map Dg.n).Nodup) {i : Nat} {d : Dg} (hd : l[i]? = some d) : ∀ e ∈ l.eraseIdx i, e.n ≠ d.n := by
  rw [cut_at hd, List.map_append, List.map_cons, List.nodup_append] at h
  obtain ⟨h1, h2, h3⟩ := h
  rw [List.nodup_cons] at h2
  intro e he
  rw [List.eraseIdx_eq_take_drop_succ] at he
  rcases List.mem_append.1 he with he | he
  · exact fun e2 => h3 _ (List.mem_map_of_mem he) _ (by simp) e2
  · exact fun e2 => h2.1 (e2 ▸ List.mem_map_of_mem he)
/-- The row of what was sent behind a call. -/
def sn' (sn : List Opd) (o : Opd) (k c : Int) : List Opd := if k = 0 ∧ c = 0 then sn ++ [o] else sn
theorem kp_step {s s' : Ns} {sn : List Opd} {tw : Bool} {tk : List Nat} (h : Kp s sn tw tk) (hnt : Nt W s) (o : Opd) {k : Int} {d : Dv} {c : Int} (hd0 : o.k = k) (ho : Outc s s' k o.f o.t o.i o.a o.m o.l d false c) :
    Kp s' (sn' sn o k c) (tw || (decide (k = 3) && decide (c = 0))) tk := by
  have hmono : ∀ {s : Ns} {sn : List Opd} {tw b : Bool} {tk : List Nat}, Kp s sn tw tk → Kp s sn (tw || b) tk := by
    intro s sn tw b tk h
    cases b with
    | false => rw [Bool.or_false]; exact h
    | true => rw [Bool.or_true]; exact h.twin
  rcases ho with ⟨_, _, rfl, hb⟩ | ⟨_, _, rfl, hg⟩ | ⟨_, e, _⟩
  · have hc : ¬ c = 0 := by
      rintro rfl
      rcases hb with ⟨_, _, e⟩ | ⟨_, _, _, e⟩ | ⟨_, _, e⟩ | ⟨_, e, _⟩ | ⟨_, e, _⟩ | ⟨_, _, e⟩ <;> omega
    have : sn' sn o k c = sn := by unfold sn'; rw [if_neg (fun h => hc h.2)]
    rw [this]; exact hmono h
  · rcases hg with ⟨rfl, hm, hl, hs, hp⟩ | ⟨hs, hg⟩
    · have hsn : sn' sn o 0 0 = sn ++ [o] := by unfold sn'; rw [if_pos ⟨rfl, rfl⟩]
      rw [hsn]
      refine hmono ?_
      have hget : ∀ {x : Nat} {y : Opd}, sn[x]? = some y → (sn ++ [o])[x]? = some y := fun {x y} hx => by
        rw [List.getElem?_append_left (List.getElem?_eq_some_iff.1 hx).1]; exact hx
      have hlast : (sn ++ [o])[s.sent]? = some o := by rw [← h.len, List.getElem?_append_right (Nat.le_refl _)]; simp
      -- the same state with one more sent
      obtain ⟨s1, hs1⟩ : ∃ s1, s1 = { s with sent := s.sent + 1 } := ⟨_, rfl⟩
      have h1 : Kp s1 (sn ++ [o]) tw tk := by
        subst hs1
        exact ⟨by simp [h.len], fun i d hd => by obtain ⟨x, hx, hr⟩ := h.was i d hd; exact ⟨x, hget hx, hr⟩, fun x hx => Nat.le_succ_of_le (h.old x hx), h.nod, h.uni, h.out⟩
      have hq1 : s1.q = s.q := by rw [hs1]
      rcases hp with ⟨_, hlo, bk, hq⟩ | ⟨_, hlo, hq⟩
      · refine h1.more (j := none) (D := ⟨o.f, o.t, s.sent + 1, bk, o.l, false⟩) (by rw [hs, hs1]) (by rw [hq, hq1]) ⟨o, by simpa using hlast, rfl, rfl, rfl, fun _ => rfl, fun e => by (cases e)⟩ (fun ht => ⟨fun i d hd => ?_, fun hx => ?_⟩)
        · rw [hq1] at hd
          have := (hnt.ok i d hd).2.2.2.1
          show d.n ≠ s.sent + 1
          omega
        · have := h.old _ hx
          simp only at this
          omega
      · have e : s'.q = upd s1.q none (s1.q none) := by rw [hq, hq1]; funext i; by_cases e : i = none <;> simp [upd, e]
        exact h1.less (List.Sublist.refl _) (by rw [hs, hs1]) e
    have hsn : ∀ c, k ≠ 0 → sn' sn o k c = sn := fun c hk => by unfold sn'; rw [if_neg (fun h => hk h.1)]
    rcases hg with ⟨rfl, x, D, _, hD, hc⟩ | ⟨rfl, x, D, _, hD, h2, h3⟩ | ⟨rfl, x, D, _, hD, hp⟩ | ⟨rfl, x, D, j, _, hD, hsp, _, hj, h2, h3⟩ | ⟨rfl, _, _, rfl⟩ | ⟨rfl, hnod, h2, h3⟩
    · rw [hsn 0 (by decide)]
      refine hmono ?_
      obtain ⟨s1, hs1⟩ : ∃ s1, s1 = { s with q := upd s.q none ((s.q none).eraseIdx x) } := ⟨_, rfl⟩
      have hq1 : s1.q = upd s.q none ((s.q none).eraseIdx x) := by rw [hs1]
      have h1 : Kp s1 sn tw tk := h.less (List.eraseIdx_sublist _ _) (by rw [hs1]) hq1
      have hDm : D ∈ s.q none := List.mem_of_getElem? hD
      rcases hc with ⟨_, _, hq⟩ | ⟨_, _, hq⟩
      · refine h1.more (j := some D.t) (D := D) (by rw [hs, hs1]) (by rw [hq, hq1, upd_other _ _ (show some D.t ≠ none by simp)]) (h.was none D hDm) (fun ht => ⟨fun i d hd => ?_, h.out ht none D hDm⟩)
        rw [hq1] at hd
        by_cases e : i = none
        · subst e; rw [upd_same] at hd; exact nodup_cut_n (h.nod ht none) hD d hd
        · rw [upd_other _ _ e] at hd; exact h.uni ht i none e d hd D hDm
      · exact h.less (List.eraseIdx_sublist _ _) hs hq
    · rw [hsn 0 (by decide)]; exact hmono (h.less (List.eraseIdx_sublist _ _) hs h3)
    · rw [hsn 0 (by decide)]
      have hDm : D ∈ s.q none := List.mem_of_getElem? hD
      have ht : (tw || (decide ((3 : Int) = 3) && decide ((0 : Int) = 0))) = true := by simp
      rw [ht]
      rcases hp with ⟨_, _, bk, hq⟩ | ⟨_, _, hq⟩
      · exact h.twin.more (j := none) (D := ⟨D.f, D.t, D.n, bk, D.by', D.sp⟩) hs hq (h.was none D hDm) (fun e => by (cases e))
      · have e : s'.q = upd s.q none (s.q none) := by rw [hq]; funext i; by_cases e : i = none <;> simp [upd, e]
        exact h.twin.less (List.Sublist.refl _) hs e
    · rw [hsn 0 (by decide)]
      refine hmono ?_
      have hDm : D ∈ s.q none := List.mem_of_getElem? hD
      have hmap : ((s.q none).set x (D.spoil j o.m)).map Dg.n = (s.q none).map Dg.n := by
        rw [List.map_set]
        apply List.ext_getElem?
        intro y
        rw [List.getElem?_set]
        by_cases hy : x = y
        · subst hy; rw [if_pos rfl, List.getElem?_map, hD]; simp [(List.getElem?_eq_some_iff.1 hD).1, Dg.spoil]
        · rw [if_neg hy]
      have hm : ∀ i, ∀ d ∈ s'.q i, ∃ e ∈ s.q i, e.n = d.n ∧ e.f = d.f ∧ e.t = d.t ∧ ∀ l, Nr l e.by' e.sp → Nr l d.by' d.sp := by
        intro i d hd
        rw [h3] at hd
        by_cases e : i = none
        · subst e; rw [upd_same] at hd
          rcases List.mem_or_eq_of_mem_set hd with hd | rfl
          · exact ⟨d, hd, rfl, rfl, rfl, fun _ h => h⟩
          · exact ⟨D, hDm, rfl, rfl, rfl, fun l hl => by rw [hsp] at hl; exact nr_spoil hl j o.m⟩
        · rw [upd_other _ _ e] at hd; exact ⟨d, hd, rfl, rfl, rfl, fun _ h => h⟩
      refine ⟨h.len.trans hs.symm, fun i d hd => ?_, fun x hx => hs ▸ h.old x hx, fun ht i => ?_, fun ht i k hik d hd e he => ?_, fun ht i d hd => ?_⟩
      · obtain ⟨e, he, e1, e2, e3, e4⟩ := hm i d hd
        obtain ⟨y, y1, y2, y3, y4⟩ := h.was i e he
        exact ⟨y, by rw [← e1]; exact y1, y2.trans e2, y3.trans e3, e4 _ y4⟩
      · rw [h3]
        by_cases e : i = none
        · subst e; rw [upd_same, hmap]; exact h.nod ht none
        · rw [upd_other _ _ e]; exact h.nod ht i
      · obtain ⟨d1, hd1, e1, _⟩ := hm i d hd
        obtain ⟨d2, hd2, e2, _⟩ := hm k e he
        rw [← e1, ← e2]; exact h.uni ht i k hik d1 hd1 d2 hd2
      · obtain ⟨d1, hd1, e1, _⟩ := hm i d hd
        rw [← e1]; exact h.out ht i d1 hd1
    · rw [hsn 0 (by decide)]; exact hmono h
    · rw [hsn 0 (by decide)]; exact hmono (h.less (List.nil_sublist _) hs h3)
  · cases e
theorem kp_take {s s' : Ns} {sn : List Opd} {tw : Bool} {tk : List Nat} (h : Kp s sn tw tk) (hnt : Nt W s) {f : Int} {D : Dg} {r : List Dg} (hq : s.q (some f) = D :: r) (hs : s'.sent = s.sent) (hq' : s'.q = upd s.q (some f) r) :
    Kp s' sn tw (tk ++ [D.n]) ∧ (tw = false → D.n ∉ tk) ∧ ∃ o, sn[D.n - 1]? = some o ∧ o.f = D.f ∧ o.t = D.t ∧ Nr o.l D.by' D.sp := by
  have hDm : D ∈ s.q (some f) := by rw [hq]; simp
  have h1 : Kp s' sn tw tk := h.less (by rw [hq]; exact List.sublist_cons_self D r) hs hq'
  refine ⟨⟨h1.len, h1.was, fun x hx => ?_, h1.nod, h1.uni, fun ht i d hd hx => ?_⟩, fun ht => h.out ht _ D hDm, h.was _ D hDm⟩
  · rcases List.mem_append.1 hx with hx | hx
    · exact h1.old x hx
    · rw [List.mem_singleton] at hx; subst hx; rw [hs]; exact (hnt.ok _ D hDm).2.2.2.1
  · rcases List.mem_append.1 hx with hx | hx
    · exact h1.out ht i d hd hx
    · rw [List.mem_singleton] at hx
      rw [hq'] at hd
      by_cases e : i = some f
      · subst e; rw [upd_same] at hd
        have := h.nod ht (some f)
        rw [hq, List.map_cons, List.nodup_cons] at this
        exact this.1 (hx ▸ List.mem_map_of_mem hd)
      · rw [upd_other _ _ e] at hd
        exact h.uni ht i (some f) e d hd D hDm hx
end Go.Proofs.Ytjffhnpoipolfaa
