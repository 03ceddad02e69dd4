/-
  Bytes within quotes, read into a row of the call's own.
-/
import Derived.Test.YtdmichjhmfinpaaGreatDoorI
import Derived.Maps.AppendAt
import Derived.RegionTactic
import Derived.BigRegion
set_option linter.unusedVariables false
set_option linter.unusedSimpArgs false
namespace Go.Proofs.YtdmichjhmfinpaaGreatDoor
open Go.RowKit Go.Maps

/-- One more element behind a row of the call's own. -/
theorem wpList_own (w : World) {ops : Array Oper} {rest : List Oper} {o : Oper} {a : Act} {Q : Exit → Act → World → Prop} (hgd : o.guard = none) (t : TypeId) (x y : Operand)
    (ho : o.op = .call { callee := .builtin .append, args := #[x, y], argTypes := #[t, t] }) (base : Nat) (e : TypeId) (i : TypeInfo) (z : Value) (size bytes : Nat) (ht : Tryz.prog.underlying t = some (.slice e)) (hi : Tryz.prog.info? e = some i) (hz : i.zero = some z)
    (hsize : i.size = size) (hby : i.bytes = bytes) (hzs : z.cells.size = size) (hsz : 0 < size)
    (v : Value) (n : Nat) (xs : List Value) (ad : Addr) (m c : Nat) (news : List Value) (hx : a.eval x = v) (hy : a.eval y = .slice (some ad) m c) (hown : w.ownsRow base e size v n xs)
    (hl : news.length = m * size) (hnews : ∀ j u, news[j]? = some u → w.cell? (ad.add j) = some u) (h1 : ∀ u ∈ news, u.oneCell' = true)
    (h63 : n + m ≤ maxLen) (hbytes : (n + m) * bytes ≤ 140737488355328) (hbase : base ≤ w.heap.size)
    (h : ∀ v' w', w'.ownsRow base e size v' (n + m) (xs ++ news) → w.grownBy w' v.ownBlock → wpList Tryz.prog ops Q rest (a.put o.dst v') w') :
    wpList Tryz.prog ops Q (o :: rest) a w := by
  refine wpList_plain hgd fun K hK => ?_
  obtain ⟨v', w', hr, hown', hgrow, _, _⟩ := run_append_own_at (P := Tryz.prog) w base t o.type e i z size bytes ht hi hz hsize hby hzs hsz v n xs hown ad m c news hl hnews h1 h63 hbytes hbase
  unfold Oper.wp execOp
  simp only [ho, resolve, invoke, builtin, Sem.run_bind, Sem.run_pure, Result.andThen_ok, List.map_toArray, List.map_cons, List.map_nil, hx, hy, hr]
  exact hK _ _ (h v' w' hown' hgrow)

theorem ownsRow_of_block {W W' : World} {base : Nat} {e : TypeId} {size : Nat} {sv : Value} {n : Nat} {xs : List Value} (h : W.ownsRow base e size sv n xs) (hb : ∀ k, base ≤ k → sv.ownBlock = some k → W'.heap[k]? = W.heap[k]?) : W'.ownsRow base e size sv n xs := by
  refine ⟨h.1, ?_⟩
  rcases h.2 with h0 | ⟨g, cap, cur, rfl, hg, h2, h3⟩
  · exact .inl h0
  · exact .inr ⟨g, cap, cur, rfl, hg, (hb g hg rfl).trans h2, h3⟩
theorem ownsRow_lt {W : World} {base : Nat} {e : TypeId} {size : Nat} {sv : Value} {n : Nat} {xs : List Value} (h : W.ownsRow base e size sv n xs) (k : Nat) (hk : sv.ownBlock = some k) : base ≤ k ∧ k < W.heap.size := by
  rcases h.2 with ⟨rfl, _⟩ | ⟨g, cap, cur, rfl, hg, h2, h3⟩
  · cases hk
  · cases hk; exact ⟨hg, (Array.getElem?_eq_some_iff.1 h2).1⟩
theorem ownsRow_gr {S : Nat → Prop} {W W' : World} {base : Nat} {e : TypeId} {size : Nat} {sv : Value} {n : Nat} {xs : List Value} (h : W.ownsRow base e size sv n xs) (g : Gr S W W') (hs : ∀ k, base ≤ k → ¬ S k) : W'.ownsRow base e size sv n xs :=
  ownsRow_of_block h (fun k h1 h2 => g.block k (ownsRow_lt h k h2).2 (hs k h1))
theorem ownsRow_sv {W : World} {base : Nat} {e : TypeId} {size : Nat} {sv : Value} {n : Nat} {xs : List Value} (h : W.ownsRow base e size sv n xs) : ∃ a cap, sv = .slice a n cap := by
  rcases h.2 with ⟨rfl, rfl⟩ | ⟨g, cap, cur, rfl, hg, h2, h3⟩ <;> exact ⟨_, _, rfl⟩

/-- Bytes up to the quote. -/
def qts (s : ByteArray) : Nat → Nat → List Int → Except Nat (List Int × Nat)
  | 0, i, _ => .error i
  | k + 1, i, l => if pk s i = 34 then .ok (l, i + 1) else match one s i with
    | .error j => .error j
    | .ok (c, j) => qts s k j (l ++ [c])
/-- A text in quotes, whose first one stands at i, behind parts of a size. -/
def qtd (s : ByteArray) (i n : Nat) : Except (Nat × Int) (List Int × Nat × Nat) :=
  match qts s (s.size + 1) (i + 1) [] with
  | .error j => .error (j, 41)
  | .ok (l, j) => if 4096 < n + l.length then .error (i, 21) else .ok (l, j, n + l.length)

theorem one_ok {s : ByteArray} {i j : Nat} {c : Int} (h : one s i = .ok (c, j)) : i < j ∧ j ≤ s.size := by
  have hcod : ∀ {i j : Nat} {c : Int}, cod s i = .ok (c, j) → i < j ∧ j ≤ s.size := by
    intro i j c h
    unfold cod at h
    split at h
    · cases h
    · split at h
      · cases h
      · split at h
        · cases h
        · split at h
          · cases h
          · rename_i h1 h2 h3 h4
            have := lt_of_hexv (s := s) (i := i + 1) (by omega)
            cases h
            omega
  have hpk : ∀ {i : Nat} {x : Int}, pk s i = x → x ≠ 0 → i + 1 ≤ s.size := by
    intro i x h1 h2
    exact lt_of_pk (by rw [h1]; exact h2)
  have hesc : ∀ {i j : Nat} {c : Int}, esc s i = .ok (c, j) → i < j ∧ j ≤ s.size := by
    intro i j c h
    unfold esc at h
    split at h
    · rename_i h1
      cases h
      rcases h1 with h1 | h1
      · exact ⟨by omega, hpk h1 (by decide)⟩
      · exact ⟨by omega, hpk h1 (by decide)⟩
    · split at h
      · have := hcod h; omega
      · cases h
  unfold one at h
  split at h
  · cases h
  · rename_i h1
    split at h
    · have := hesc h; omega
    · cases h
      refine ⟨by omega, lt_of_pk (fun e => h1 ?_)⟩
      rw [e]; decide

/-- How a text in quotes ends. -/
def EndQ (W : World) (b : Nat) (s : ByteArray) (e : Ending) (w' : World) : Except (Nat × Int) (List Int × Nat × Nat) → Prop
  | .ok (l, j, n) => ∃ sv, e = .returned sv ∧ w'.ownsRow W.heap.size 5 1 sv l.length (l.map (Value.int .u8)) ∧ St W b s w' j n
  | .error (j, c) => e = gives j c ∧ Gr (fun k => k = b) W w'

set_option maxRecDepth 100000 in
set_option maxHeartbeats 1600000 in
theorem quoted_c (W : World) (b : Nat) (s : ByteArray) (i n : Nat) (h : Rd W b s i n) (hs : s.size ≤ 65536) (hi : pk s i = 34) (hn : n ≤ 4096) :
    Calls Tryz.prog 64 #[pt b] W fun e w' => EndQ W b s e w' (qtd s i n) := by
  have hlt : i < s.size := lt_of_pk (by rw [hi]; decide)
  clear hi
  have hi2 : (i : Int) < 65536 := by omega
  have hnI : (n : Int) ≤ 4096 := by omega
  clear hn
  obtain ⟨c0, c1, c2, f0, f1, f2⟩ := h.facts
  have hb := h.lt
  obtain ⟨i0, hi0, hz0, hz1, hz2⟩ := info_parts info5
  obtain ⟨r, hr⟩ : ∃ r, r = qtd s i n := ⟨_, rfl⟩
  rw [← hr]
  have Hr := Lib.hid hr
  clear hr
  have hs2 := h.setAt (i + 1)
  have hg2 := Gr.set (S := fun k => k = b) W ⟨b, 1, none⟩ (.int .i64 ((i + 1 : Nat) : Int)) rfl
  go_enter Tryz.func64, Tryz.ntmps64
  go_wp2_with fail
  go_loopw [4] (fun u wr => ∃ (l : List Int) (j f : Nat), s.size < f + j ∧ j ≤ s.size ∧ l.length ≤ j ∧ Hid (qts s (s.size + 1) (i + 1) [] = qts s f j l) ∧ wr.ownsRow W.heap.size 5 1 u l.length (l.map (Value.int .u8)) ∧ St W b s wr j n) (fun _ wr => s.size - atOf wr b)
  case atStart => exact ⟨[], i + 1, s.size + 1, by omega, by omega, by simp, rfl, World.ownsRow_nil _ _ _ _, hs2, hg2⟩
  case round =>
    obtain ⟨l, j, f, hf, hj, hlj, Hq, hrow, hst⟩ := hrel
    have Hat := Lib.hid hst.1.atOf
    clear hs2 hg2 c0 c1 c2 f0 f1 f2
    have hp2 := fun W h => peek_c W b s j n h hj
    obtain ⟨x, hx⟩ : ∃ x, pk s j = x := ⟨_, rfl⟩
    rw [hx] at hp2
    have Hx := Lib.hid hx
    clear hx
    obtain ⟨f, rfl⟩ : ∃ g, f = g + 1 := ⟨f - 1, by omega⟩
    by_cases h3 : x = 34
    · have hltj : j < s.size := lt_of_pk (by rw [Hx.out, h3]; decide)
      have hj2 : (j : Int) < 65536 := by omega
      have hl2 : (l.length : Int) ≤ 65536 := by omega
      have he : Hid (r = if 4096 < n + l.length then .error (i, 21) else .ok (l, j + 1, n + l.length)) := by
        show r = _
        rw [Hr.out, qtd, Hq.out, qts, if_pos (by rw [Hx.out, h3])]
      subst h3
      obtain ⟨ad, cap, rfl⟩ := ownsRow_sv hrow
      go_wp2_with fail
      refine (hp2 _ hst.1).mono ?_
      rintro e w3 ⟨rfl, hs3⟩
      obtain ⟨k0, k1, k2, l0, l1, l2⟩ := hs3.1.facts
      obtain ⟨z, hz⟩ : ∃ z : Int, (n : Int) + (l.length : Int) = z := ⟨_, rfl⟩
      have hzl : 0 ≤ z := by omega
      have hzu : z ≤ 200000 := by omega
      have hrow3 := ownsRow_gr hrow hs3.2 (fun k h1 h2 => by omega)
      have hg3 := hst.2.trans hs3.2
      have h5 := hs3.1.setAt (j + 1)
      have h6 : Rd ((w3.setCell ⟨b, 1, none⟩ (.int .i64 ((j : Int) + 1))).setCell ⟨b, 2, none⟩ (.int .i64 z)) b s (j + 1) (n + l.length) := hz ▸ h5.setSz (n + l.length)
      have hg6 : Gr (fun k => k = b) W ((w3.setCell ⟨b, 1, none⟩ (.int .i64 ((j : Int) + 1))).setCell ⟨b, 2, none⟩ (.int .i64 z)) := (hg3.trans (Gr.set _ _ _ rfl)).trans (Gr.set _ _ _ rfl)
      have hrow6 : ((w3.setCell ⟨b, 1, none⟩ (.int .i64 ((j : Int) + 1))).setCell ⟨b, 2, none⟩ (.int .i64 z)).ownsRow W.heap.size 5 1 (.slice ad l.length cap) l.length (l.map (Value.int .u8)) :=
        ownsRow_gr (ownsRow_gr hrow3 (Gr.set (S := fun k => k = b) _ _ _ rfl) (fun k h1 h2 => by omega)) (Gr.set (S := fun k => k = b) _ _ _ rfl) (fun k h1 h2 => by omega)
      by_cases h7 : 4096 < n + l.length
      · have h8 : 4096 < z := by omega
        replace h7 := Lib.hid h7
        go_wp2_with fail
        refine ⟨rfl, ?_⟩
        rw [he.out, if_pos h7.out]
        exact ⟨rfl, hg6⟩
      · have h8 : decide (4096 < z) = false := by simp; omega
        replace h7 := Lib.hid h7
        clear h hnI hlj hf
        go_wp2_with fail
        go_ret
        rw [he.out, if_neg h7.out]
        exact ⟨_, rfl, hrow6, h6, hg6⟩
    · have h3' : (x != 34) = true := by rw [bne_iff_ne]; exact h3
      have he : Hid (qts s (s.size + 1) (i + 1) [] = match one s j with | .error k => .error k | .ok (c, k) => qts s f k (l ++ [c])) := by
        show _ = _
        rw [Hq.out, qts, if_neg (by rw [Hx.out]; exact h3)]
      have ho := fun W h => oneByte_c W b s j n h hs hj
      have hok := @one_ok s j
      generalize one s j = q at ho he hok
      clear h3
      rcases q with k | ⟨c, k⟩
      · have e : r = .error (k, 41) := by rw [Hr.out, qtd, he.out]
        subst e
        clear hok
        go_wp2_with fail
        refine (hp2 _ hst.1).mono ?_
        rintro e w3 ⟨rfl, hs3⟩
        go_wp2_with fail
        refine (ho _ hs3.1).mono ?_
        rintro e w4 ⟨rfl, hg4⟩
        exact ⟨rfl, rfl, (hst.2.trans hs3.2).trans hg4⟩
      · obtain ⟨o1, o2⟩ := hok rfl
        clear hok
        go_wp2_with fail
        refine (hp2 _ hst.1).mono ?_
        rintro e w3 ⟨rfl, hs3⟩
        go_wp2_with fail
        refine (ho _ hs3.1).mono ?_
        rintro e w4 ⟨rfl, hs4⟩
        have hrow4 := ownsRow_gr (ownsRow_gr hrow hs3.2 (fun k h1 h2 => by omega)) hs4.2 (fun k h1 h2 => by omega)
        have hg4 := (hst.2.trans hs3.2).trans hs4.2
        go_wp2_with (first
          | (at_builtin; refine wpList_own _ rfl 28 _ _ rfl W.heap.size 5 i0 (.int .u8 0) 1 1 Tryz.underlying28 hi0 hz0 hz1 hz2 rfl (by decide) u4 l.length (l.map (Value.int .u8)) ⟨w4.heap.size, 0, none⟩ 1 1 [.int .u8 c] rfl rfl (hrow4.alloc _) rfl (cell_one_new _ _ _) (by simp [Value.oneCell']) (by unfold maxLen; omega) (by omega) (by have := hg4.size; simp; omega) ?_; intro v' w5 hrow5 hgr5))
        have hg5 : Gr (fun k => W.heap.size ≤ k) w4 w5 := (Gr.alloc w4 _ _).trans (Gr.of_grown hgr5 (fun k e => (ownsRow_lt hrow k e).1))
        have hr5 := hs4.1.gr hg5 (by omega)
        refine ⟨⟨l ++ [c], k, f, by omega, o2, by simp; omega, he, ?_, hr5, hg4.trans' hg5 (fun i hi h => absurd h (by omega))⟩, by rw [hr5.atOf, Hat.out]; omega⟩
        simpa using hrow5
end Go.Proofs.YtdmichjhmfinpaaGreatDoor
/-
  The table of kinds, and what is wrong with a term that has no elements.
-/
namespace Go.Proofs.YtdmichjhmfinpaaGreatDoor
open Go.RowKit Go.Maps
@[go_sem] theorem st_func (P : Program) (w : World) (a : Addr) (m : Mode) (fn : Fn) (x y : Array Value) : (store a (.func fn x y) m).run P w = stored P w a (.func fn x y) m := run_store P w a _ m rfl
@[go_sem] theorem st_nilFunc (P : Program) (w : World) (a : Addr) (m : Mode) : (store a .nilFunc m).run P w = stored P w a .nilFunc m := run_store P w a _ m rfl
abbrev fv (n : Nat) : Value := .func (.func n) #[] #[]
/-- The table of kinds in memory. -/
def Kd (W : World) (b : Nat) : Prop := W.heap[b]? = some (.cells #[.nilFunc, .nilFunc, .nilFunc, fv 45, fv 46, fv 47, fv 48, fv 46, fv 47, fv 49, fv 50, fv 51, fv 42, fv 43, fv 44, fv 42, fv 43, fv 44,
  fv 52, fv 53, .func (.func 54) #[pt b] #[], fv 52, fv 53, .func (.func 55) #[pt b] #[], fv 56, fv 53, fv 57] 89 (0, 0))
theorem Kd.gr {S : Nat → Prop} {W W' : World} {b : Nat} (h : Kd W b) (g : Gr S W W') (hs : ¬ S b) : Kd W' b := g.keep h hs
theorem Kd.lt {W : World} {b : Nat} (h : Kd W b) : b < W.heap.size := (Array.getElem?_eq_some_iff.1 h).1
/-- The row of a kind: what is left without its fields, whether its value may be. -/
theorem Kd.cells {W : World} {b : Nat} (h : Kd W b) :
    (W.cell? ⟨b, 3, none⟩ = some (fv 45) ∧ W.cell? ⟨b, 4, none⟩ = some (fv 46) ∧ W.cell? ⟨b, 5, none⟩ = some (fv 47)) ∧
    (W.cell? ⟨b, 6, none⟩ = some (fv 48) ∧ W.cell? ⟨b, 7, none⟩ = some (fv 46) ∧ W.cell? ⟨b, 8, none⟩ = some (fv 47)) ∧
    (W.cell? ⟨b, 9, none⟩ = some (fv 49) ∧ W.cell? ⟨b, 10, none⟩ = some (fv 50) ∧ W.cell? ⟨b, 11, none⟩ = some (fv 51)) ∧
    (W.cell? ⟨b, 12, none⟩ = some (fv 42) ∧ W.cell? ⟨b, 13, none⟩ = some (fv 43) ∧ W.cell? ⟨b, 14, none⟩ = some (fv 44)) ∧
    (W.cell? ⟨b, 15, none⟩ = some (fv 42) ∧ W.cell? ⟨b, 16, none⟩ = some (fv 43) ∧ W.cell? ⟨b, 17, none⟩ = some (fv 44)) := by
  unfold Kd at h
  simp [World.cell?, h]

set_option maxRecDepth 100000 in
set_option maxHeartbeats 1600000 in
theorem makeKinds_c (W : World) : Calls Tryz.prog 23 #[] W fun e w' => e = .returned (pt W.heap.size) ∧ Kd w' W.heap.size ∧ Gr (fun _ => False) W w' := by
  have hmf : ∀ (fn : Fn) (first cap : Array Value) (w : World), (Instr.makeFunc fn first cap).run Tryz.prog w = .ok (.func fn first cap) w := fun _ _ _ _ => rfl
  go_enter Tryz.func23, Tryz.ntmps23
  go_wp2_with fail
  go_region
  all_goals
    go_wp2_with fail
    go_ret
    refine ⟨rfl, ?_, ?_⟩
    · refine (Gr.drew _ (fun _ => False)).keep ((Gr.alloc _ _ (fun _ => False)).keep (heap_alloc_new W _) (fun e => e)) (fun e => e)
    · exact ((Gr.alloc _ _ _).trans (Gr.alloc _ _ _)).trans (Gr.drew _ _)
end Go.Proofs.YtdmichjhmfinpaaGreatDoor
