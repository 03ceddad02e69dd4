/-
  Carried over from another seat of ours (F).
-/
import Derived.Test.YtggkjkkbkpnkiaaGreatDoorD
import Derived.Maps.AppendAt
import Derived.RegionTactic
import Derived.BigRegion
set_option linter.unusedVariables false
set_option linter.unusedSimpArgs false
namespace Go.Proofs.YtggkjkkbkpnkiaaGreatDoor
open Go.RowKit Go.Maps

/-- One more element behind a row of the call's own. -/
theorem wpList_own (w : World) {ops : Array Oper} {rest : List Oper} {o : Oper} {a : Act} {Q : Exit → Act → World → Prop} (hgd : o.guard = none) (t : TypeId) (x y : Operand)
    (ho : o.op = .call { callee := .builtin .append, args := #[x, y], argTypes := #[t, t] }) (base : Nat) (e : TypeId) (i : TypeInfo) (z : Value) (size bytes : Nat) (ht : Tryz.prog.underlying t = some (.slice e)) (hi : Tryz.prog.info? e = some i) (hz : i.zero = some z)
    (hsize : i.size = size) (hby : i.bytes = bytes) (hzs : z.cells.size = size) (hsz : 0 < size)
    (v : Value) (n : Nat) (xs : List Value) (ad : Addr) (m c : Nat) (news : List Value) (hx : a.eval x = v) (hy : a.eval y = .slice (some ad) m c) (hown : w.ownsRow base e size v n xs)
    (hl : news.length = m * size) (hnews : ∀ j u, news[j]? = some u → w.cell? (ad.add j) = some u) (h1 : ∀ u ∈ news, u.oneCell' = true)
    (h63 : n + m ≤ maxLen) (hbytes : (n + m) * bytes ≤ 140737488355328) (hbase : base ≤ w.heap.size)
    (h : ∀ v' w', w'.ownsRow base e size v' (n + m) (xs ++ news) → w.grownBy w' v.ownBlock → wpList Tryz.prog ops Q rest (a.put o.dst v') w') :
    wpList Tryz.prog ops Q (o :: rest) a w := by
  refine wpList_plain hgd fun K hK => ?_
  obtain ⟨v', w', hr, hown', hgrow, _, _⟩ := run_append_own_at (P := Tryz.prog) w base t o.type e i z size bytes ht hi hz hsize hby hzs hsz v n xs hown ad m c news hl hnews h1 h63 hbytes hbase
  unfold Oper.wp execOp
  simp only [ho, resolve, invoke, builtin, Sem.run_bind, Sem.run_pure, Result.andThen_ok, List.map_toArray, List.map_cons, List.map_nil, hx, hy, hr]
  exact hK _ _ (h v' w' hown' hgrow)
theorem ownsRow_of_block {W W' : World} {base : Nat} {e : TypeId} {size : Nat} {sv : Value} {n : Nat} {xs : List Value} (h : W.ownsRow base e size sv n xs) (hb : ∀ k, base ≤ k → sv.ownBlock = some k → W'.heap[k]? = W.heap[k]?) : W'.ownsRow base e size sv n xs := by
  refine ⟨h.1, ?_⟩
  rcases h.2 with h0 | ⟨g, cap, cur, rfl, hg, h2, h3⟩
  · exact .inl h0
  · exact .inr ⟨g, cap, cur, rfl, hg, (hb g hg rfl).trans h2, h3⟩
theorem ownsRow_lt {W : World} {base : Nat} {e : TypeId} {size : Nat} {sv : Value} {n : Nat} {xs : List Value} (h : W.ownsRow base e size sv n xs) (k : Nat) (hk : sv.ownBlock = some k) : base ≤ k ∧ k < W.heap.size := by
  rcases h.2 with ⟨rfl, _⟩ | ⟨g, cap, cur, rfl, hg, h2, h3⟩
  · cases hk
  · cases hk; exact ⟨hg, (Array.getElem?_eq_some_iff.1 h2).1⟩
theorem ownsRow_gr {S : Nat → Prop} {W W' : World} {base : Nat} {e : TypeId} {size : Nat} {sv : Value} {n : Nat} {xs : List Value} (h : W.ownsRow base e size sv n xs) (g : Gr S W W') (hs : ∀ k, base ≤ k → ¬ S k) : W'.ownsRow base e size sv n xs :=
  ownsRow_of_block h (fun k h1 h2 => g.block k (ownsRow_lt h k h2).2 (hs k h1))
theorem ownsRow_sv {W : World} {base : Nat} {e : TypeId} {size : Nat} {sv : Value} {n : Nat} {xs : List Value} (h : W.ownsRow base e size sv n xs) : ∃ a cap, sv = .slice a n cap := by
  rcases h.2 with ⟨rfl, rfl⟩ | ⟨g, cap, cur, rfl, hg, h2, h3⟩ <;> exact ⟨_, _, rfl⟩
/-- Bytes up to the quote. -/
def qts (s : ByteArray) : Nat → Nat → List Int → Option (List Int × Nat)
  | 0, _, _ => none
  | k + 1, i, l => if pk s i = 34 then some (l, i + 1) else match one s i with
    | none => none
    | some (c, j) => qts s k j (l ++ [c])
/-- A text in quotes, whose first one stands at i. -/
def qtd (s : ByteArray) (i : Nat) : Option (List Int × Nat) := qts s (s.size + 1) (i + 1) []

/-- How a text in quotes ends. -/
def EndQ (W : World) (b : Nat) (s : ByteArray) (e : Ending) (w' : World) : Option (List Int × Nat) → Prop
  | some (l, j) => ∃ sv, e = .returned (.tuple #[sv, .int .i64 0]) ∧ w'.ownsRow W.heap.size 5 1 sv l.length (l.map (Value.int .u8)) ∧ St W b s w' j
  | none => e = .returned (.tuple #[.slice none 0 0, .int .i64 154]) ∧ Gr (fun k => k = b) W w'

set_option maxRecDepth 100000 in
set_option maxHeartbeats 1600000 in
theorem quoted_c (W : World) (b : Nat) (s : ByteArray) (i : Nat) (h : Rd W b s i) (hs : s.size ≤ 60000) (hi : pk s i = 34) :
    Calls Tryz.prog 28 #[pt b] W fun e w' => EndQ W b s e w' (qtd s i) := by
  have hlt : i < s.size := lt_of_pk (by rw [hi]; decide)
  clear hi
  have hsI : (s.size : Int) ≤ 60000 := by omega
  have hi2 : (i : Int) < 60000 := by omega
  clear hs
  obtain ⟨c0, c1, f0, f1⟩ := h.facts
  have hb := h.lt
  obtain ⟨i0, hi0, hz0, hz1, hz2⟩ := info_parts info5
  obtain ⟨r, hr⟩ : ∃ r, r = qtd s i := ⟨_, rfl⟩
  rw [← hr]
  have Hr := Lib.hid hr
  clear hr
  have hs2 := h.setAt (i + 1)
  have hg2 := Gr.set (S := fun k => k = b) W ⟨b, 1, none⟩ (.int .i64 ((i + 1 : Nat) : Int)) rfl
  go_enter Tryz.func28, Tryz.ntmps28
  go_wp2_with fail
  go_loopw [4] (fun u wr => ∃ (l : List Int) (j f : Nat), s.size < f + j ∧ j ≤ s.size ∧ l.length ≤ j ∧ Hid (qts s (s.size + 1) (i + 1) [] = qts s f j l) ∧ wr.ownsRow W.heap.size 5 1 u l.length (l.map (Value.int .u8)) ∧ St W b s wr j) (fun _ wr => s.size - atOf wr b)
  case atStart => exact ⟨[], i + 1, s.size + 1, by omega, by omega, by simp, rfl, World.ownsRow_nil _ _ _ _, hs2, hg2⟩
  case round =>
    obtain ⟨l, j, f, hf, hj, hlj, Hq, hrow, hst⟩ := hrel
    have Hat := Lib.hid hst.1.atOf
    clear hs2 hg2 c0 c1 f0 f1
    have hp2 := fun W h => peek_c W b s j h
    obtain ⟨x, hx⟩ : ∃ x, pk s j = x := ⟨_, rfl⟩
    rw [hx] at hp2
    have Hx := Lib.hid hx
    clear hx
    obtain ⟨f, rfl⟩ : ∃ g, f = g + 1 := ⟨f - 1, by omega⟩
    by_cases h3 : x = 34
    · have hltj : j < s.size := lt_of_pk (by rw [Hx.out, h3]; decide)
      have hj2 : (j : Int) < 60000 := by omega
      have e : r = some (l, j + 1) := by
        rw [Hr.out, qtd, Hq.out, qts, if_pos (by rw [Hx.out, h3])]
      subst h3
      subst e
      go_wp2_with fail
      refine (hp2 _ hst.1).mono ?_
      rintro e w3 ⟨rfl, hs3⟩
      obtain ⟨k0, k1, l0, l1⟩ := hs3.1.facts
      have hrow3 := ownsRow_gr hrow hs3.2 (fun k h1 h2 => by omega)
      have hg3 := hst.2.trans hs3.2
      have h5 := hs3.1.setAt (j + 1)
      have hg6 : Gr (fun k => k = b) W (w3.setCell ⟨b, 1, none⟩ (.int .i64 ((j : Int) + 1))) := hg3.trans (Gr.set _ _ _ rfl)
      have hrow6 : (w3.setCell ⟨b, 1, none⟩ (.int .i64 ((j : Int) + 1))).ownsRow W.heap.size 5 1 u4 l.length (l.map (Value.int .u8)) :=
        ownsRow_gr hrow3 (Gr.set (S := fun k => k = b) _ _ _ rfl) (fun k h1 h2 => by omega)
      go_wp2_with fail
      go_ret2
      exact ⟨_, rfl, hrow6, h5, hg6⟩
    · have h3' : (x != 34) = true := by rw [bne_iff_ne]; exact h3
      have he : Hid (qts s (s.size + 1) (i + 1) [] = match one s j with | none => none | some (c, k) => qts s f k (l ++ [c])) := by
        show _ = _
        rw [Hq.out, qts, if_neg (by rw [Hx.out]; exact h3)]
      have ho := fun W h => oneByte_c W b s j h (by omega)
      have hok := @one_ok s j
      generalize one s j = q at ho he hok
      clear h3
      rcases q with _ | ⟨c, k⟩
      · have e : r = none := by rw [Hr.out, qtd, he.out]
        subst e
        clear hok
        simp only [End8] at ho
        go_wp2_with fail
        refine (hp2 _ hst.1).mono ?_
        rintro e w3 ⟨rfl, hs3⟩
        go_wp2_with fail
        refine (ho _ hs3.1).mono ?_
        rintro e w4 ⟨⟨y, rfl⟩, hg4⟩
        go_wp2_with fail
        go_ret2
        exact ⟨rfl, (hst.2.trans hs3.2).trans hg4⟩
      · obtain ⟨o1, o2⟩ := hok rfl
        clear hok
        simp only [End8] at ho
        go_wp2_with fail
        refine (hp2 _ hst.1).mono ?_
        rintro e w3 ⟨rfl, hs3⟩
        go_wp2_with fail
        refine (ho _ hs3.1).mono ?_
        rintro e w4 ⟨rfl, hs4⟩
        have hrow4 := ownsRow_gr (ownsRow_gr hrow hs3.2 (fun k h1 h2 => by omega)) hs4.2 (fun k h1 h2 => by omega)
        have hg4 := (hst.2.trans hs3.2).trans hs4.2
        go_wp2_with (first
          | (at_builtin; refine wpList_own _ rfl 25 _ _ rfl W.heap.size 5 i0 (.int .u8 0) 1 1 Tryz.underlying25 hi0 hz0 hz1 hz2 rfl (by decide) u4 l.length (l.map (Value.int .u8)) ⟨w4.heap.size, 0, none⟩ 1 1 [.int .u8 c] rfl rfl (hrow4.alloc _) rfl (cell_one_new _ _ _) (by simp [Value.oneCell']) (by unfold maxLen; omega) (by omega) (by have := hg4.size; simp; omega) ?_; intro v' w5 hrow5 hgr5))
        have hg5 : Gr (fun k => W.heap.size ≤ k) w4 w5 := (Gr.alloc w4 _ _).trans (Gr.of_grown hgr5 (fun k e => (ownsRow_lt hrow k e).1))
        have hr5 := hs4.1.gr hg5 (by omega)
        refine ⟨⟨l ++ [c], k, f, by omega, o2, by simp; omega, he, ?_, hr5, hg4.trans' hg5 (fun i hi h => absurd h (by omega))⟩, by rw [hr5.atOf, Hat.out]; omega⟩
        simpa using hrow5
end Go.Proofs.YtggkjkkbkpnkiaaGreatDoor



