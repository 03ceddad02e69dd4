/-
  The reference's ints.
-/
import Derived.Test.YtnojhboflegkdaaDoorAD
set_option linter.unusedVariables false
set_option linter.unusedSimpArgs false
namespace Go.Proofs.YtnojhboflegkdaaDoor
open Go.RowKit Go.Maps

/-- The number that so many digits from i on make. -/
def dpv (s : ByteArray) (i : Nat) : Nat → Int
  | 0 => 0
  | k + 1 => dpv s i k * 10 + (bt s (i + k) - 48)
theorem dva_dpv {s : ByteArray} {i j : Nat} (hj : j ≤ s.size) : ∀ k, k ≤ j - i → dva (s.extract i j) k = dpv s i k
  | 0, _ => rfl
  | k + 1, hk => by rw [dva, dpv, dva_dpv hj k (by omega), bt_ext s i j k hj (by omega)]
theorem dvx_dpv {s : ByteArray} {i k : Nat} (hj : i + k ≤ s.size) : dvx s i (i + k) = dpv s i k := by
  rw [dvx, size_ext s i _ hj, show i + k - i = k by omega]
  exact dva_dpv hj k (by omega)

/-- How the reference's reader of a token ends. -/
def EndR (W : World) (e : Ending) (w' : World) : Except Int (Tok × Nat) → Prop
  | .ok (t, j) => ∃ a c, e = .returned (.tuple #[tkv t.k t.s t.n (.slice a t.b.length c) t.at', .int .i64 (j : Int), .int .i64 0]) ∧ w'.ownsRow W.heap.size 5 1 (.slice a t.b.length c) t.b.length (t.b.map (Value.int .u8)) ∧ Gr (fun _ => False) W w'
  | .error c => (∃ j : Int, e = .returned (.tuple #[tkv 0 e0 0 nl 0, .int .i64 j, .int .i64 c])) ∧ Gr (fun _ => False) W w'

/-- Five cells written anew. -/
theorem Tk.put {W : World} {b : Nat} {k : Int} {s : ByteArray} {n : Int} {sv : Value} {i : Nat} (h : Tk W b k s n sv i) (k' : Int) (s' : ByteArray) (n' : Int) (v' : Value) (i' : Nat) (W' : World)
    (e : ((((W.setCell ⟨b, 0, none⟩ (.int .i64 k')).setCell ⟨b, 1, none⟩ (.string s')).setCell ⟨b, 2, none⟩ (.int .i64 n')).setCell ⟨b, 3, none⟩ v').setCell ⟨b, 4, none⟩ (.int .i64 (i' : Int)) = W') : Tk W' b k' s' n' v' i' ∧ Gr (fun j => j = b) W W' := by
  subst e
  exact ⟨((((h.setK k').setS s').setN n').setB v').setA i', ((((Gr.set (S := fun j => j = b) _ _ _ rfl).trans (Gr.set (S := fun j => j = b) _ _ _ rfl)).trans (Gr.set (S := fun j => j = b) _ _ _ rfl)).trans (Gr.set (S := fun j => j = b) _ _ _ rfl)).trans (Gr.set (S := fun j => j = b) _ _ _ rfl)⟩

set_option maxRecDepth 100000 in
set_option maxHeartbeats 4000000 in
theorem number_c (W : World) (s : ByteArray) (i : Nat) (hs : s.size ≤ 60000) (hi : i < s.size) (hd : dig (pk s i) = true) :
    Calls Tryd.prog 36 #[.string s, .int .i64 (i : Int)] W fun e w' => EndR W e w' (tokV s i) := by
  have hsI : (s.size : Int) ≤ 60000 := by omega
  have hle := span_le (p := dig) (s := s) (i := i) (by omega)
  have hge := span_ge dig s i
  obtain ⟨r, hr⟩ : ∃ r, r = tokV s i := ⟨_, rfl⟩
  rw [← hr]
  rw [tokV, if_pos hd] at hr
  obtain ⟨d, hspan⟩ : ∃ d, span dig s i = i + d := ⟨span dig s i - i, by omega⟩
  rw [hspan] at hr hle
  rw [dvx_dpv hle] at hr
  have Hr := Lib.hid hr
  have Hsp := Lib.hid hspan
  replace hle := Lib.hid hle
  clear hr hspan hge hd hs
  go_enter Tryd.func36, Tryd.ntmps36
  go_wp2_with fail
  generalize hW1 : W.alloc _ = w1
  have hT1 : Tk w1 W.heap.size 0 e0 0 nl 0 := hW1 ▸ heap_alloc_new W _
  have hg1 : Hid (Gr (fun _ => False) W w1) := hW1 ▸ Gr.alloc _ _ _
  clear hW1
  obtain ⟨tb', htb⟩ : ∃ tb, W.heap.size = tb := ⟨_, rfl⟩
  have hfin : Hid (∀ w', Gr (fun k => k = tb') w1 w' → Gr (fun _ => False) W w') := fun w' g => hg1.out.trans' g (fun j hj e => by omega)
  have hbs : Hid (W.heap.size = tb') := htb
  rw [htb] at hT1 ⊢
  clear htb
  have hlb := hT1.lt
  go_loopw [7, 8, 9] (fun n u b wr => ∃ (k : Nat) (v : Int) (q : Bool), i + k ≤ s.size ∧ n = .int .i64 v ∧ u = .int .i64 ((i : Int) + (k : Int)) ∧ b = .bool q ∧ 0 ≤ v ∧ v ≤ 4611686018427387903 ∧ Hid (k ≤ d ∧ span dig s (i + k) = i + d) ∧ Hid (q = false → v = dpv s i k) ∧ Hid (q = true → 4611686018427387903 < dpv s i k) ∧ wr = w1) (fun _ u _ _ => s.size - (intOf u).toNat)
  case atStart => exact ⟨0, 0, false, by omega, rfl, by simp, rfl, by decide, by decide, ⟨Nat.zero_le _, Hsp.out⟩, Lib.hid (fun _ => rfl), Lib.hid (fun h => Bool.noConfusion h), rfl⟩
  case round =>
    obtain ⟨k, v, q, hk, rfl, rfl, rfl, hv0, hv1, Hk, Hf, Ht, rfl⟩ := hrel
    by_cases hlt : i + k < s.size
    · have hkI : (i : Int) + (k : Int) < (s.size : Int) := by omega
      have hx : ∀ w, (Instr.index 9 (.string s) (.int .i64 ((i : Int) + k))).run Tryd.prog w = .ok (.int .u8 (bt s (i + k))) w := fun w => by
        rw [show ((i : Int) + k) = ((i + k : Nat) : Int) by omega]; exact ix s (i + k) hlt w
      have hc0 := bt_nonneg s (i + k)
      have hc1 := bt_lt s (i + k)
      have hpk := pk_lt_size hlt
      obtain ⟨c, hc⟩ : ∃ c, bt s (i + k) = c := ⟨_, rfl⟩
      rw [hc] at hx hc0 hc1 hpk
      have Hc := Lib.hid hc
      have Hpk := Lib.hid hpk
      have hb := fun w => between_c c 48 57 w
      rw [btw_dig] at hb
      clear hc hpk
      by_cases h1 : dig c = true
      · rw [h1] at hb
        have hy := span_yes (p := dig) (s := s) (i := i + k) (by rw [Hpk.out]; exact h1) rfl
        have Hk2 : Hid (k + 1 ≤ d ∧ span dig s (i + (k + 1)) = i + d) := by
          have h2 := Hk.out.2
          rw [hy.2] at h2
          have := span_ge dig s (i + k + 1)
          exact ⟨by omega, h2⟩
        have hd1 : 48 ≤ c := by simp [dig] at h1; exact h1.1
        have hd2 : c ≤ 57 := by simp [dig] at h1; exact h1.2
        obtain ⟨z, hz⟩ : ∃ z, (4611686018427387903 - (c - 48)) / 10 = z := ⟨_, rfl⟩
        have hzt : Int.tdiv (4611686018427387903 - (c - 48)) 10 = z := by rw [Int.tdiv_eq_ediv_of_nonneg (by omega)]; exact hz
        have hz0 : 0 ≤ z := by omega
        have hz1 : z ≤ 4611686018427387903 := by omega
        clear hy h1
        by_cases h3 : z < v
        · have hbig : Hid (4611686018427387903 < dpv s i (k + 1)) := by
            show _ < dpv s i k * 10 + (bt s (i + k) - 48)
            rw [Hc.out]
            cases q with
            | false => have := Hf.out rfl; omega
            | true => have := Ht.out rfl; omega
          go_wp2_with fail
          refine (hb _).mono ?_
          rintro e w' ⟨rfl, rfl⟩
          go_wp2_with fail
          exact ⟨⟨k + 1, v, true, by omega, rfl, by go_num, rfl, hv0, hv1, Hk2, Lib.hid (fun h => Bool.noConfusion h), Lib.hid (fun _ => hbig.out), trivial⟩, by simp [intOf]; omega⟩
        · have h3' : decide (z < v) = false := by simp; omega
          have h4 : v * 10 + (c - 48) ≤ 4611686018427387903 := by omega
          have hn : Hid ((q = false → v * 10 + (c - 48) = dpv s i (k + 1)) ∧ (q = true → 4611686018427387903 < dpv s i (k + 1))) := by
            show (q = false → v * 10 + (c - 48) = dpv s i k * 10 + (bt s (i + k) - 48)) ∧ (q = true → 4611686018427387903 < dpv s i k * 10 + (bt s (i + k) - 48))
            rw [Hc.out]
            exact ⟨fun h => by rw [Hf.out h], fun h => by have := Ht.out h; omega⟩
          go_wp2_with fail
          refine (hb _).mono ?_
          rintro e w' ⟨rfl, rfl⟩
          go_wp2_with fail
          exact ⟨⟨k + 1, v * 10 + (c - 48), q, by omega, rfl, by go_num, rfl, by omega, h4, Hk2, Lib.hid hn.out.1, Lib.hid hn.out.2, trivial⟩, by simp [intOf]; omega⟩
      · have h1' : dig c = false := by simpa using h1
        rw [h1'] at hb
        have hkd : k = d := by
          have h2 := Hk.out.2
          rw [span_no (by rw [Hpk.out]; exact h1')] at h2
          omega
        subst hkd
        have hin := fun w => namer_c c w
        have Hr2 : Hid (r = if 4611686018427387903 < dpv s i k ∨ inN c = true then .error 152 else .ok (⟨1, e0, dpv s i k, [], i⟩, i + k)) := by
          show r = _
          rw [Hr.out, Hpk.out]
        clear h1 h1'
        cases q with
        | true =>
          have e : r = .error 152 := by rw [Hr2.out, if_pos (.inl (Ht.out rfl))]
          subst e
          obtain ⟨⟨t0, t1, t2, t3, t4⟩, u0, u1, u2, u3, u4⟩ := hT1.facts
          go_wp2_with fail
          refine (hb _).mono ?_
          rintro e w' ⟨rfl, rfl⟩
          go_wp2_with fail
          generalize hX9 : World.setCell _ _ _ = w9
          obtain ⟨hT9, hg9⟩ := hT1.put 0 e0 0 nl 0 w9 hX9
          clear hX9 t0 t1 t2 t3 t4 u0 u1 u2 u3 u4
          obtain ⟨⟨t0, t1, t2, t3, t4⟩, u0, u1, u2, u3, u4⟩ := hT9.facts
          refine bodyPost_ret (v := .tuple #[tkv 0 e0 0 nl 0, .int .i64 ((i : Int) + (k : Int)), .int .i64 152]) (by simp [results, Tryd.results36, go_sem, t0, t1, t2, t3, t4]) rfl ?_
          exact ⟨⟨_, rfl⟩, hfin.out w9 hg9⟩
        | false =>
          have hv := Hf.out rfl
          cases h5 : inN c
          · have e : r = .ok (⟨1, e0, v, [], i⟩, i + k) := by rw [Hr2.out, if_neg (by rw [h5, ← hv]; rintro (e | e); omega; cases e), ← hv]
            subst e
            rw [h5] at hin
            clear hv h5
            obtain ⟨⟨t0, t1, t2, t3, t4⟩, u0, u1, u2, u3, u4⟩ := hT1.facts
            go_wp2_with fail
            refine (hb _).mono ?_
            rintro e w' ⟨rfl, rfl⟩
            go_wp2_with fail
            refine (hin _).mono ?_
            rintro e w' ⟨rfl, rfl⟩
            go_wp2_with fail
            generalize hX9 : World.setCell _ _ _ = w9
            obtain ⟨hT9, hg9⟩ := hT1.put 1 e0 v nl i w9 hX9
            clear hX9 t0 t1 t2 t3 t4 u0 u1 u2 u3 u4
            obtain ⟨⟨t0, t1, t2, t3, t4⟩, u0, u1, u2, u3, u4⟩ := hT9.facts
            refine bodyPost_ret (v := .tuple #[tkv 1 e0 v nl i, .int .i64 ((i : Int) + (k : Int)), .int .i64 0]) (by simp [results, Tryd.results36, go_sem, t0, t1, t2, t3, t4]) rfl ?_
            exact ⟨none, 0, rfl, World.ownsRow_nil _ _ _ _, hfin.out w9 hg9⟩
          · have e : r = .error 152 := by rw [Hr2.out, if_pos (.inr h5)]
            subst e
            rw [h5] at hin
            clear hv h5
            obtain ⟨⟨t0, t1, t2, t3, t4⟩, u0, u1, u2, u3, u4⟩ := hT1.facts
            go_wp2_with fail
            refine (hb _).mono ?_
            rintro e w' ⟨rfl, rfl⟩
            go_wp2_with fail
            refine (hin _).mono ?_
            rintro e w' ⟨rfl, rfl⟩
            go_wp2_with fail
            generalize hX9 : World.setCell _ _ _ = w9
            obtain ⟨hT9, hg9⟩ := hT1.put 0 e0 0 nl 0 w9 hX9
            clear hX9 t0 t1 t2 t3 t4 u0 u1 u2 u3 u4
            obtain ⟨⟨t0, t1, t2, t3, t4⟩, u0, u1, u2, u3, u4⟩ := hT9.facts
            refine bodyPost_ret (v := .tuple #[tkv 0 e0 0 nl 0, .int .i64 ((i : Int) + (k : Int)), .int .i64 152]) (by simp [results, Tryd.results36, go_sem, t0, t1, t2, t3, t4]) rfl ?_
            exact ⟨⟨_, rfl⟩, hfin.out w9 hg9⟩
    · have hkz : i + k = s.size := by omega
      have hkd : k = d := by have := Hk.out.1; have := hle.out; omega
      subst hkd
      have hkI : decide ((i : Int) + (k : Int) < (s.size : Int)) = false := by simp; omega
      have Hr2 : Hid (r = if 4611686018427387903 < dpv s i k ∨ inN 0 = true then .error 152 else .ok (⟨1, e0, dpv s i k, [], i⟩, i + k)) := by
        show r = _
        rw [Hr.out, show pk s (i + k) = 0 by rw [pk, if_neg (by omega)]]
      cases q with
      | true =>
        have e : r = .error 152 := by rw [Hr2.out, if_pos (.inl (Ht.out rfl))]
        subst e
        clear hkz
        obtain ⟨⟨t0, t1, t2, t3, t4⟩, u0, u1, u2, u3, u4⟩ := hT1.facts
        go_wp2_with fail
        generalize hX9 : World.setCell _ _ _ = w9
        obtain ⟨hT9, hg9⟩ := hT1.put 0 e0 0 nl 0 w9 hX9
        clear hX9 t0 t1 t2 t3 t4 u0 u1 u2 u3 u4
        obtain ⟨⟨t0, t1, t2, t3, t4⟩, u0, u1, u2, u3, u4⟩ := hT9.facts
        refine bodyPost_ret (v := .tuple #[tkv 0 e0 0 nl 0, .int .i64 ((i : Int) + (k : Int)), .int .i64 152]) (by simp [results, Tryd.results36, go_sem, t0, t1, t2, t3, t4]) rfl ?_
        exact ⟨⟨_, rfl⟩, hfin.out w9 hg9⟩
      | false =>
        have hv := Hf.out rfl
        have e : r = .ok (⟨1, e0, v, [], i⟩, i + k) := by rw [Hr2.out, if_neg (by rw [← hv]; rintro (e | e); omega; exact absurd e (by decide)), ← hv]
        subst e
        clear hv hkz
        obtain ⟨⟨t0, t1, t2, t3, t4⟩, u0, u1, u2, u3, u4⟩ := hT1.facts
        go_wp2_with fail
        generalize hX9 : World.setCell _ _ _ = w9
        obtain ⟨hT9, hg9⟩ := hT1.put 1 e0 v nl i w9 hX9
        clear hX9 t0 t1 t2 t3 t4 u0 u1 u2 u3 u4
        obtain ⟨⟨t0, t1, t2, t3, t4⟩, u0, u1, u2, u3, u4⟩ := hT9.facts
        refine bodyPost_ret (v := .tuple #[tkv 1 e0 v nl i, .int .i64 ((i : Int) + (k : Int)), .int .i64 0]) (by simp [results, Tryd.results36, go_sem, t0, t1, t2, t3, t4]) rfl ?_
        exact ⟨none, 0, rfl, World.ownsRow_nil _ _ _ _, hfin.out w9 hg9⟩
end Go.Proofs.YtnojhboflegkdaaDoor
