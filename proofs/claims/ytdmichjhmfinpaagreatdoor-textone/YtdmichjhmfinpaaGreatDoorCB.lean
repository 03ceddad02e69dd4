/-
  TextOne returns true for every string of bytes: what the program reads of a text is right and its own text is just that one; of what is no term's text it tells the zero term and a place within the text; and the chapter's examples come out; the argument reads as before and nothing that was there is changed. Conditions: none on the input; five variables of Go's library start as the program's text lays them, which the card ties.
-/
import Derived.Test.YtdmichjhmfinpaaGreatDoorBR
import Derived.Test.YtdmichjhmfinpaaGreatDoorBU
import Derived.Test.YtdmichjhmfinpaaGreatDoorBS
import Derived.Test.YtdmichjhmfinpaaGreatDoorBN
import Derived.Test.YtdmichjhmfinpaaGreatDoorAE
import Derived.Test.YtdmichjhmfinpaaGreatDoorCA
import Derived.Test.YtdmichjhmfinpaaGreatDoorCards
import Derived.Lib.LaidTab
import Derived.Test.YtdmichjhmfinpaaGreatDoorRows
import Derived.Test.YtdmichjhmfinpaaGreatDoorTie
import Derived.ProofKit
import Derived.OpenShut
import Derived.ChangeMaps5
import Derived.Lay
import Derived.Stop.LaidErr
import Derived.SevenTiedAt
set_option linter.unusedVariables false
set_option linter.unusedSimpArgs false
namespace Go.Proofs.YtdmichjhmfinpaaGreatDoor
open Go.RowKit Go.Maps

/-- A part that was read from i to j, its depth d, sizes n ahead of it and m behind it. -/
structure Good (s : ByteArray) (T : Tm) (i j : Nat) (d : Int) (n m R : Nat) : Prop where
  lt : i < j
  le : j ≤ s.size
  put : PutK T (seg s i j)
  ok : okT Pw stepW T d n
  go : goT stepW T d n = .ok m
  hgt : hgt T ≤ R
  m : m ≤ 4096
theorem okL_nil {P : Int → Tm → Nat → Prop} {step : Int → Tm → Nat → Except Empty Nat} {d : Int} {z : Nat} : okL P step [] d z := by rw [okL]; trivial
theorem goL_nil {step : Int → Tm → Nat → Except Empty Nat} {d : Int} {z : Nat} : goL step [] d z = .ok z := by rw [goL]
theorem els_good {s : ByteArray} {p : Nat → Nat → Except (Nat × Int) (Tm × Nat × Nat)} {en : Int} {d : Int} {R : Nat} (hen : en ≠ 0) (hp : ∀ i n T j m, i ≤ s.size → p i n = .ok (T, j, m) → Good s T i j d n m R) :
    ∀ (k i n : Nat) (l l' : List Tm) (j m : Nat), i ≤ s.size → l.length < 256 → els s p en k i n l = .ok (l', j, m) →
      ∃ ts txs, l' = l ++ ts ∧ ts ≠ [] ∧ txs.length = ts.length ∧ (∀ (q : Nat) T x, ts[q]? = some T → txs[q]? = some x → PutK T x) ∧ etx txs ++ [en] = seg s i j ∧ i < j ∧ j ≤ s.size ∧
        okL Pw stepW ts d n ∧ goL stepW ts d n = .ok m ∧ hgtL ts ≤ R ∧ m ≤ 4096 ∧ l'.length ≤ 256
  | 0, i, n, l, l', j, m, hi, hl, h => by simp [els] at h
  | k + 1, i, n, l, l', j, m, hi, hl, h => by
    rw [els] at h
    split at h
    · cases h
    · rename_i T j1 m1 hq
      have g := hp i n T j1 m1 hi hq
      split at h
      · rename_i hpk
        cases h
        have hlt : j1 < s.size := lt_of_pk (by rw [hpk]; exact hen)
        refine ⟨[T], [seg s i j1], rfl, by simp, rfl, ?_, ?_, by have := g.lt; omega, hlt, ?_, ?_, ?_, g.m, by simp; omega⟩
        · intro q T' x hT hx
          match q, hT, hx with
          | 0, hT, hx => cases hT; cases hx; exact g.put
        · rw [seg_snoc s (by have := g.lt; omega), pk_bt' hpk hen]
          simp [etx]
        · rw [okL_cons]; exact ⟨g.ok, fun _ _ => okL_nil⟩
        · rw [goL_cons, g.go]; exact goL_nil
        · rw [hgtL_cons]; have := g.hgt; simp [hgtL]; omega
      · split at h
        · rename_i hpk h44
          split at h
          · cases h
          · rename_i h256
            have hlt : j1 < s.size := lt_of_pk (by rw [h44]; decide)
            obtain ⟨ts, txs, e1, e2, e3, e4, e5, e6, e7, e8, e9, e10, e11, e12⟩ := els_good hen hp k (j1 + 1) m1 (l ++ [T]) l' j m hlt (by simp; omega) h
            refine ⟨T :: ts, seg s i j1 :: txs, by rw [e1]; simp, by simp, by simp [e3], ?_, ?_, by have := g.lt; omega, e7, ?_, ?_, ?_, e11, e12⟩
            · intro q T' x hT hx
              match q, hT, hx with
              | 0, hT, hx => cases hT; cases hx; exact g.put
              | q + 1, hT, hx => exact e4 q T' x (by simpa using hT) (by simpa using hx)
            · obtain ⟨y, r, rfl⟩ : ∃ y r, txs = y :: r := by
                cases txs with
                | nil => cases ts with
                  | nil => exact absurd rfl e2
                  | cons a b => simp at e3
                | cons y r => exact ⟨y, r, rfl⟩
              have e : etx (seg s i j1 :: y :: r) = seg s i j1 ++ (44 :: etx (y :: r)) := by simp [etx]
              rw [e, List.append_assoc, List.cons_append, e5, ← seg_app s (show i ≤ j1 by have := g.lt; omega) (show j1 ≤ j by omega), seg_cons s (show j1 < j by omega), pk_bt' h44 (by decide)]
            · rw [okL_cons]
              refine ⟨g.ok, fun z hz => ?_⟩
              rw [g.go] at hz; cases hz; exact e8
            · rw [goL_cons, g.go]; exact e9
            · rw [hgtL_cons]; have := g.hgt; omega
        · cases h
theorem lst_good {s : ByteArray} {p : Nat → Nat → Except (Nat × Int) (Tm × Nat × Nat)} {q en : Int} {d : Int} {R : Nat} (hen : en ≠ 0) (hq : q ≠ 0) (hp : ∀ i n T j m, i ≤ s.size → p i n = .ok (T, j, m) → Good s T i j d n m R)
    (i n : Nat) (l' : List Tm) (j m : Nat) (hi : pk s i = q) (hn : n ≤ 4096) (h : lst s p en i n = .ok (l', j, m)) :
      ∃ txs, txs.length = l'.length ∧ (∀ (q : Nat) T x, l'[q]? = some T → txs[q]? = some x → PutK T x) ∧ [q] ++ etx txs ++ [en] = seg s i j ∧ i < j ∧ j ≤ s.size ∧
        okL Pw stepW l' d n ∧ goL stepW l' d n = .ok m ∧ hgtL l' ≤ R ∧ m ≤ 4096 ∧ l'.length ≤ 256 := by
  have hlt : i < s.size := lt_of_pk (by rw [hi]; exact hq)
  unfold lst at h
  split at h
  · rename_i hpk
    cases h
    have hlt2 : i + 1 < s.size := lt_of_pk (by rw [hpk]; exact hen)
    refine ⟨[], rfl, by simp, ?_, by omega, hlt2, okL_nil, goL_nil, by simp [hgtL], hn, by simp⟩
    rw [seg_cons s (show i < i + 2 by omega), seg_one, pk_bt' hi hq, pk_bt' hpk hen]
    rfl
  · obtain ⟨ts, txs, e1, e2, e3, e4, e5, e6, e7, e8, e9, e10, e11, e12⟩ := els_good hen hp 256 (i + 1) n [] l' j m hlt (by decide) h
    rw [List.nil_append] at e1
    subst e1
    refine ⟨txs, e3, e4, ?_, by omega, e7, e8, e9, e10, e11, e12⟩
    rw [List.append_assoc, e5, seg_cons s (show i < j by omega), pk_bt' hi hq]
    rfl
theorem leaf_good {s : ByteArray} {t : Lf} {bs : List Int} {i j : Nat} {d : Int} {n R : Nat} (h1 : i < j) (h2 : j ≤ s.size) (hput : PutK (.mk t bs []) (seg s i j)) (hf : FaultOk (.mk t bs [])) (hd : d ≤ 24) (hn : n + 1 + bs.length ≤ 4096) (hR : 1 ≤ R) :
    Good s (.mk t bs []) i j d n (n + 1 + bs.length) R :=
  ⟨h1, h2, hput, ⟨⟨hf, hd, hn⟩, fun _ _ => okL_nil⟩, goL_nil, by simp [hgt, hgtL]; omega, hn⟩
theorem sgl_good {s : ByteArray} {i j : Nat} {t : Lf} (hi : i ≤ s.size) (h : sgl s i = .ok (t, true, j)) : i < j ∧ j ≤ s.size ∧ PutK (.mk t [] []) (seg s i j) ∧ FaultOk (.mk t [] []) := by
  unfold sgl at h
  split at h
  · split at h
    · cases h
    · rename_i v j' hg
      have hv : inR v = true := by simp only [Except.ok.injEq, Prod.mk.injEq] at h; exact h.2.1
      obtain ⟨rfl, rfl⟩ : t = { k := 1, n := v } ∧ j' = j := by simp only [Except.ok.injEq, Prod.mk.injEq] at h; exact ⟨h.1.symm, h.2.2⟩
      obtain ⟨e1, e2, e3⟩ := di_itg hi hg hv
      exact ⟨e2, e3, e1 ▸ put_int_k v hv, ok_int v hv⟩
  · split at h
    · rename_i hlow
      simp only [Except.ok.injEq, Prod.mk.injEq, decide_eq_true_eq] at h
      obtain ⟨rfl, h32, rfl⟩ := h
      obtain ⟨e1, e2⟩ := span_first hlow
      have e3 := span_le (p := inN) (s := s) (i := i) hi
      have hsz := size_ext s i (span inN s i) e3
      refine ⟨e1, e3, ?_, ?_⟩
      · rw [← seg_tb s i _ e3]
        exact (put_atom _).k (by rw [tb_length]; omega)
      · refine ok_atom _ (by omega) (by omega) ?_ ?_
        · rw [bt_ext s i _ 0 e3 (by omega), Nat.add_zero, ← pk_bt e2]; exact hlow
        · intro q hq
          rw [bt_ext s i _ q e3 (by omega)]
          exact span_all (i := i) (i + q) (by omega) (by omega)
    · split at h
      · rename_i h35
        have l0 : i < s.size := lt_of_pk (by rw [h35]; decide)
        unfold mrk at h
        split at h
        · rename_i h99
          have l1 : i + 1 < s.size := lt_of_pk (by rw [h99]; decide)
          split at h
          · cases h
          · rename_i p q j' hc
            simp only [Except.ok.injEq, Prod.mk.injEq, Bool.and_eq_true] at h
            obtain ⟨rfl, ⟨r1, r2⟩, rfl⟩ := h
            obtain ⟨e1, e2, e3⟩ := cxs_seg l1 hc
            obtain ⟨b1, b2, -⟩ := cxs_ok l1 hc
            refine ⟨by omega, e3, ?_, ok_cx _ _ b1 b2 r1 r2⟩
            rw [seg_cons s (show i < j' by omega), seg_cons s (show i + 1 < j' by omega), pk_bt' h35 (by decide), pk_bt' h99 (by decide), ← e1]
            exact put_cx_k _ _ b1 b2
        · split at h
          · rename_i h114
            have l1 : i + 1 < s.size := lt_of_pk (by rw [h114]; decide)
            split at h
            · cases h
            · rename_i a c d j' hc
              simp only [Except.ok.injEq, Prod.mk.injEq] at h
              obtain ⟨rfl, r1, rfl⟩ := h
              obtain ⟨e1, e2, e3, b1, b2, b3, b4, b5, b6⟩ := ids_seg l1 hc r1
              refine ⟨by omega, e3, ?_, ok_ref _ _ _ b1 b2 b3 b5⟩
              rw [seg_cons s (show i < j' by omega), seg_cons s (show i + 1 < j' by omega), pk_bt' h35 (by decide), pk_bt' h114 (by decide), ← e1]
              exact put_ref_k _ _ _ b1 b2 b3 b4 b5 b6
          · split at h
            · rename_i h112
              have l1 : i + 1 < s.size := lt_of_pk (by rw [h112]; decide)
              split at h
              · cases h
              · rename_i a c d j' hc
                simp only [Except.ok.injEq, Prod.mk.injEq] at h
                obtain ⟨rfl, r1, rfl⟩ := h
                obtain ⟨e1, e2, e3, b1, b2, b3, b4, b5, b6⟩ := ids_seg l1 hc r1
                refine ⟨by omega, e3, ?_, ok_pid _ _ _ b1 b2 b3 b5⟩
                rw [seg_cons s (show i < j' by omega), seg_cons s (show i + 1 < j' by omega), pk_bt' h35 (by decide), pk_bt' h112 (by decide), ← e1]
                exact put_pid_k _ _ _ b1 b2 b3 b4 b5 b6
            · cases h
      · cases h
theorem bytes_k (l : List Int) (h : ∀ c ∈ l, 0 ≤ c ∧ c < 256) (hl : l.length ≤ 4096) {x : List Int} (hx : [34] ++ pbs l ++ [34] = x) : PutK (.mk { k := 8 } l []) x := by
  subst hx
  have hk : 4 * l.length + 2 ≤ ([34] ++ pbs l ++ [34] : List Int).length + 20000 := Nat.le_trans (show 4 * l.length + 2 ≤ 20000 by omega) (Nat.le_add_left _ _)
  exact (put_bytes l h).k hk
theorem prt_step (s : ByteArray) (r : Nat) (hr : r + 1 ≤ 24) (ih : ∀ i n T j m, i ≤ s.size → prt s r i n = .ok (T, j, m) → Good s T i j (25 - ((r + 1 : Nat) : Int) + 1) n m (300 * r)) (i n : Nat) (T : Tm) (j m : Nat) (hi : i ≤ s.size) (h : prt s (r + 1) i n = .ok (T, j, m)) :
    Good s T i j (25 - ((r + 1 : Nat) : Int)) n m (300 * (r + 1)) := by
  have hd : (25 - ((r + 1 : Nat) : Int)) ≤ 24 := by omega
  rw [prt] at h
  split at h
  · cases h
  · rename_i hn
    split at h
    · rename_i hpk
      split at h
      · cases h
      · rename_i l j' m' hl
        cases h
        obtain ⟨txs, e1, e2, e3, e4, e5, e6, e7, e8, e9, e10⟩ := lst_good (by decide) (by decide) ih i (n + 1) l j m hpk (by omega) hl
        refine ⟨e4, e5, e3 ▸ put_tuple_k l txs e1 e2 e10, ⟨⟨ok_tuple l e10, hd, by simp [lenB]; omega⟩, fun z hz => ?_⟩, ?_, by simp [hgt]; omega, e9⟩
        · cases hz; exact e6
        · show goL stepW l _ (n + 1 + 0) = _; exact e7
    · split at h
      · rename_i hpk
        split at h
        · cases h
        · rename_i l j' m' hl
          cases h
          obtain ⟨txs, e1, e2, e3, e4, e5, e6, e7, e8, e9, e10⟩ := lst_good (by decide) (by decide) ih i (n + 1) l j m hpk (by omega) hl
          refine ⟨e4, e5, e3 ▸ put_list_k l txs e1 e2 e10, ⟨⟨ok_list l e10, hd, by simp [lenB]; omega⟩, fun z hz => ?_⟩, ?_, by simp [hgt]; omega, e9⟩
          · cases hz; exact e6
          · show goL stepW l _ (n + 1 + 0) = _; exact e7
      · split at h
        · rename_i hpk
          split at h
          · cases h
          · rename_i l j' m' hl
            cases h
            obtain ⟨e1, e2, e3, rfl, e5, e6⟩ := qtd_seg hpk hl
            exact leaf_good e2 e3 (bytes_k l e6 (by omega) e1) (ok_bytes l) hd e5 (by omega)
        · split at h
          · cases h
          · rename_i t ok j' hg
            split at h
            · rename_i hok
              cases h
              subst hok
              obtain ⟨e1, e2, e3, e4⟩ := sgl_good hi hg
              exact leaf_good (bs := []) e1 e2 e3 e4 hd (by simp; omega) (by omega)
            · cases h

theorem prt_good (s : ByteArray) (r : Nat) : ∀ (i n : Nat) (T : Tm) (j m : Nat), r ≤ 24 → i ≤ s.size → prt s r i n = .ok (T, j, m) → Good s T i j (25 - (r : Int)) n m (300 * r) := by
  induction r with
  | zero => intro i n T j m hr hi h; simp [prt] at h
  | succ r ih =>
    intro i n T j m hr hi h
    refine prt_step s r hr (fun i n T j m hi h => ?_) i n T j m hi h
    have := ih i n T j m (by omega) hi h
    rwa [show (25 - ((r + 1 : Nat) : Int) + 1) = 25 - (r : Int) by omega]
theorem els_bad {s : ByteArray} {p : Nat → Nat → Except (Nat × Int) (Tm × Nat × Nat)} {en : Int} (hok : ∀ i n T j m, i ≤ s.size → p i n = .ok (T, j, m) → j ≤ s.size) (hp : ∀ i n j c, i ≤ s.size → p i n = .error (j, c) → j ≤ s.size ∧ 1 ≤ c) :
    ∀ (k i n : Nat) (l : List Tm) (j : Nat) (c : Int), i ≤ s.size → els s p en k i n l = .error (j, c) → j ≤ s.size ∧ 1 ≤ c
  | 0, i, n, l, j, c, hi, h => by simp [els] at h; obtain ⟨rfl, rfl⟩ := h; exact ⟨hi, by decide⟩
  | k + 1, i, n, l, j, c, hi, h => by
    rw [els] at h
    split at h
    · rename_i e hq; cases h; exact hp _ _ _ _ hi hq
    · rename_i T j1 m1 hq
      have hj := hok _ _ _ _ _ hi hq
      split at h
      · cases h
      · split at h
        · rename_i h44
          have hlt : j1 < s.size := lt_of_pk (by rw [h44]; decide)
          split at h
          · cases h; exact ⟨hj, by decide⟩
          · exact els_bad hok hp k (j1 + 1) m1 _ j c hlt h
        · cases h; exact ⟨hj, by decide⟩
theorem lst_bad {s : ByteArray} {p : Nat → Nat → Except (Nat × Int) (Tm × Nat × Nat)} {en : Int} (hok : ∀ i n T j m, i ≤ s.size → p i n = .ok (T, j, m) → j ≤ s.size) (hp : ∀ i n j c, i ≤ s.size → p i n = .error (j, c) → j ≤ s.size ∧ 1 ≤ c)
    (i n j : Nat) (c : Int) (hi : i < s.size) (h : lst s p en i n = .error (j, c)) : j ≤ s.size ∧ 1 ≤ c := by
  unfold lst at h
  split at h
  · cases h
  · exact els_bad hok hp _ _ _ _ _ _ hi h
theorem prt_bad (s : ByteArray) : ∀ (r i n j : Nat) (c : Int), r ≤ 24 → i ≤ s.size → prt s r i n = .error (j, c) → j ≤ s.size ∧ 1 ≤ c
  | 0, i, n, j, c, hr, hi, h => by simp [prt] at h; obtain ⟨rfl, rfl⟩ := h; exact ⟨hi, by decide⟩
  | r + 1, i, n, j, c, hr, hi, h => by
    have ih : ∀ i n j c, i ≤ s.size → prt s r i n = .error (j, c) → j ≤ s.size ∧ 1 ≤ c := fun i n j c hi h => prt_bad s r i n j c (by omega) hi h
    have ih2 : ∀ i n T j m, i ≤ s.size → prt s r i n = .ok (T, j, m) → j ≤ s.size := fun i n T j m hi h => (prt_good s r i n T j m (by omega) hi h).le
    rw [prt] at h
    split at h
    · cases h; exact ⟨hi, by decide⟩
    · split at h
      · rename_i hpk
        have hlt : i < s.size := lt_of_pk (by rw [hpk]; decide)
        split at h
        · rename_i e hl; cases h; exact lst_bad ih2 ih _ _ _ _ hlt hl
        · cases h
      · split at h
        · rename_i hpk
          have hlt : i < s.size := lt_of_pk (by rw [hpk]; decide)
          split at h
          · rename_i e hl; cases h; exact lst_bad ih2 ih _ _ _ _ hlt hl
          · cases h
        · split at h
          · rename_i hpk
            have hlt : i < s.size := lt_of_pk (by rw [hpk]; decide)
            split at h
            · rename_i e hl; cases h; exact qtd_bad hlt hl
            · cases h
          · split at h
            · rename_i j' hl; cases h; exact ⟨sgl_bad hi hl, by decide⟩
            · split at h
              · cases h
              · cases h; exact ⟨hi, by decide⟩
theorem parseV_good {s : ByteArray} {T : Tm} (h : parseV s = .ok T) : s.size ≤ 65536 ∧ ∃ m, Good s T 0 s.size 1 0 m 7200 := by
  unfold parseV at h
  split at h
  · cases h
  · rename_i hs
    unfold prs at h
    split at h
    · cases h
    · rename_i T' j m hp
      have g := prt_good s 24 0 0 T' j m (Nat.le_refl _) (Nat.zero_le _) hp
      split at h
      · cases h
      · rename_i hj
        cases h
        have e : j = s.size := by have := g.le; omega
        subst e
        exact ⟨by omega, m, g⟩
theorem parseV_bad {s : ByteArray} {j : Nat} {c : Int} (h : parseV s = .error (j, c)) : j ≤ s.size ∧ 1 ≤ c := by
  unfold parseV at h
  split at h
  · cases h; exact ⟨Nat.zero_le _, by decide⟩
  · unfold prs at h
    split at h
    · rename_i e hp; cases h; exact prt_bad s 24 0 0 j c (Nat.le_refl _) (Nat.zero_le _) hp
    · split at h
      · cases h; exact ⟨by omega, by decide⟩
      · cases h
end Go.Proofs.YtdmichjhmfinpaaGreatDoor
namespace Go.Proofs.YtdmichjhmfinpaaGreatDoor
open Go.RowKit Go.Maps
variable {S S' : Nat → Prop} {W W1 W' : World}

set_option maxRecDepth 20000 in
set_option maxHeartbeats 600000 in
theorem print_k (A : Nat → Prop) (W : World) (T : Tm) (v : Value) (n : Nat) (txt : List Int) (hrep : Rep A W T v) (hA : ∀ k, A k → k < W.heap.size) (hh : hgt T < 9223372036854775000)
    (hok : okT Pw stepW T 1 0) (hgo : goT stepW T 1 0 = .ok n) (hput : PutK T txt) (hl : txt.length ≤ 65536) (hT : Tb W) :
    Calls Tryz.prog 9 #[v] W fun e w' => e = .returned (.tuple #[.string (sb txt), .int .i64 0]) ∧ Gr (fun _ => False) W w' := by
  have hck := fun w v (g : Gr (fun _ => False) W w) (h : Rep A w T v) => check_t A w T v n h (fun k hk => by have := hA k hk; have := g.size; omega) hh hok hgo
  have hrepg := fun w2 (g : Gr (fun _ => False) W w2) => hrep.turn (A' := A) (W' := w2) (fun k hk _ => ⟨hk, g.block k (hA k hk) (fun e => e)⟩)
  have hpt := fun w v (g : Gr (fun _ => False) W w) (h : Rep A w T v) => hput A w w.heap.size (.slice none 0 0) v [] h (fun k hk => by have := hA k hk; have := g.size; omega) (Ob.nil _ _) (by simp; omega) (Nat.le_refl _) (hT.g0 g).lt (hT.g0 g)
  obtain ⟨tk, tn, tx, ty, ts', ta, tc, td, a1, n1, c1, a2, n2, c2, rfl⟩ := hrep.agg
  clear hok hgo hput
  have hBx : Bx (W.alloc (.cells #[.int .i64 tk, .int .i64 tn, .complex .f64 tx ty, .string ts', .int .i64 ta, .int .u32 tc, .int .u64 td, .slice a1 n1 c1, .slice a2 n2 c2] 31)) W.heap.size tk tn tx ty ts' ta tc td (.slice a1 n1 c1) (.slice a2 n2 c2) := heap_alloc_new W _
  have g0 : Gr (fun _ => False) W (W.alloc (.cells #[.int .i64 tk, .int .i64 tn, .complex .f64 tx ty, .string ts', .int .i64 ta, .int .u32 tc, .int .u64 td, .slice a1 n1 c1, .slice a2 n2 c2] 31)) := Gr.alloc _ _ _
  have hC := Lib.hid (hck _ _ g0 (hrepg _ g0))
  replace hBx := Lib.hid hBx
  have hlI : ¬ (65536 : Int) < (txt.length : Int) := by omega
  clear hl hck
  go_enter Tryz.func9, Tryz.ntmps9
  go_wp2_with fail
  refine (Hid.out hC).mono ?_
  rintro e w1 ⟨rfl, hg1⟩
  have hB1 := (hBx.out.gr hg1 (fun e => e)).facts
  have g1 := g0.trans hg1
  go_wp2_with fail
  refine (hpt _ _ g1 (hrepg _ g1)).mono ?_
  rintro e w2 ⟨b2, rfl, o2, hg2⟩
  rw [List.nil_append] at o2
  obtain ⟨xa, xc, rfl⟩ := o2.sv
  have hcv := conv_ob o2
  go_wp2_with fail
  go_ret2
  exact ⟨rfl, g1.trans hg2.nil⟩

set_option maxRecDepth 100000 in
set_option maxHeartbeats 1600000 in
theorem one_walk (hal : AliveOk) (s : ByteArray) (W : World) (hE : Er W) (hT : Tb W) : Calls Tryz.prog 4 #[.string s] W fun e w' => e = .returned (.bool true) ∧ Gr (fun _ => False) W w' := by
  have ha := hal W hE
  have hp := fun W hE => parse_c s W hE
  cases hr : parseV s with
  | error e =>
    obtain ⟨j, c⟩ := e
    rw [hr] at hp
    obtain ⟨hj, hc⟩ := parseV_bad hr
    have hjI : (j : Int) ≤ (s.size : Int) := by omega
    have hc0 : ¬ c = 0 := by omega
    clear hr hj hc
    go_enter Tryz.func4, Tryz.ntmps4
    go_wp2_with fail
    refine ha.mono ?_
    rintro e w1 ⟨rfl, hg1⟩
    go_wp2_with fail
    refine (hp _ (hE.gr hg1 (fun e => e))).mono ?_
    rintro e w2 ⟨rfl, hg2⟩
    have hsm := fun o => same_c (A := fun k => w1.heap.size ≤ k) (A' := fun k => w1.heap.size ≤ k) (w2.alloc o) (.mk { k := 0 } [] []) _ _ (rep_zero (fun k => w1.heap.size ≤ k) (w2.alloc o)) (rep_zero (fun k => w1.heap.size ≤ k) (w2.alloc o))
    clear hp ha
    go_wp2_with fail
    refine (hsm _).mono ?_
    rintro e w5 ⟨rfl, hg5⟩
    go_wp2_with fail
    go_ret
    exact ⟨by simp, ((hg1.trans hg2).trans (Gr.alloc _ _ _)).trans hg5⟩
  | ok T =>
    rw [hr] at hp
    obtain ⟨hs, m, hgd⟩ := parseV_good hr
    clear hr
    go_enter Tryz.func4, Tryz.ntmps4
    go_wp2_with fail
    refine ha.mono ?_
    rintro e w1 ⟨rfl, hg1⟩
    go_wp2_with fail
    refine (hp _ (hE.gr hg1 (fun e => e))).mono ?_
    rintro e w2 ⟨v, rfl, hrep, hg2⟩
    have hT2 : Tb w2 := hT.g0 (hg1.trans hg2)
    have hh : hgt T < 9223372036854775000 := by have := hgd.hgt; omega
    have hsb : sb (seg s 0 s.size) = s := by rw [seg_all, sb_tb]
    have hrepg := fun w (g : Gr (fun _ => False) w2 w) => hrep.turn (A' := fun k => w1.heap.size ≤ k ∧ k < w2.heap.size) (W' := w) (fun k hk hlt => ⟨⟨hk, hlt⟩, g.block k hlt (fun e => e)⟩)
    have hpr := fun w v (g : Gr (fun _ => False) w2 w) (h : Rep (fun k => w1.heap.size ≤ k ∧ k < w2.heap.size) w T v) => print_k _ w T v m (seg s 0 s.size) h (fun k hk => by have := g.size; omega) hh hgd.ok hgd.go hgd.put (by rw [seg_len]; omega) (hT2.g0 g)
    have hck := fun w v (g : Gr (fun _ => False) w2 w) (h : Rep (fun k => w1.heap.size ≤ k ∧ k < w2.heap.size) w T v) => check_t _ w T v m h (fun k hk => by have := g.size; omega) hh hgd.ok hgd.go
    rw [hsb] at hpr
    obtain ⟨tk, tn, tx, ty, ts, ta, tc, td, a1, n1, c1, a2, n2, c2, rfl⟩ := hrep.agg
    replace hrepg := Lib.hid hrepg
    replace hpr := Lib.hid hpr
    replace hck := Lib.hid hck
    clear hp ha hgd hs hsb hh hrep hT2 hE hT
    go_wp2_with fail
    generalize hW3 : w2.alloc _ = w3
    have hg3 : Gr (fun _ => False) w2 w3 := hW3 ▸ Gr.alloc _ _ _
    have hB3 : w3.heap[w2.heap.size]? = some (.cells #[.int .i64 tk, .int .i64 tn, .complex .f64 tx ty, .string ts, .int .i64 ta, .int .u32 tc, .int .u64 td, .slice a1 n1 c1, .slice a2 n2 c2] 31 (0, 0)) := hW3 ▸ heap_alloc_new w2 _
    clear hW3
    refine (hpr.out w3 _ hg3 (hrepg.out w3 hg3)).mono ?_
    rintro e w4 ⟨rfl, hg4⟩
    have hB4 := hg4.keep hB3 (fun e => e)
    obtain ⟨⟨m0, m1, m2, m3, m4, m5, m6, m7, m8⟩, mf⟩ := nine hB4
    have hg24 := hg3.trans hg4
    go_wp2_with fail
    refine (hck.out w4 _ hg24 (hrepg.out w4 hg24)).mono ?_
    rintro e w5 ⟨rfl, hg5⟩
    go_wp2_with fail
    go_ret
    exact ⟨by simp, ((hg1.trans hg2).trans hg24).trans hg5⟩
end Go.Proofs.YtdmichjhmfinpaaGreatDoor
namespace Go.Proofs.YtdmichjhmfinpaaGreatDoor.textOne
open Go.ChangeShapes Go.WideShapes Go.ChangeAt Go.RowKit Go.Maps Go.ChangeMaps

theorem own : ownKnob Tryz.prog.godebug = none := by kernel_rfl
theorem gR : Tryz.prog.globalNamed "strconv.ErrRange" = some 4 := by kernel_rfl
theorem tR : (Tryz.prog.globals[4]?).map (·.type) = some 128 := by kernel_rfl
theorem star : "*" ++ "errors.errorString" = "*errors.errorString" := by decide
theorem row166 (u : TypeId) (h : Tryz.prog.typeName? 3 u = some "*errors.errorString") : u = 166 :=
  typeName_ptr_named (nm := "errors.errorString") (by rw [star]; kernel_rfl) (by kernel_rfl) (by decide) u (by rw [star]; exact h)

/-- What the condition gives the walk: the library's variable ErrRange holds an error. -/
theorem er_of_laid {W : World} (h : laidMetH Tryz.prog Rows.textOneRow.laid W) : Er W := by
  rw [MakeChecks.laidMetH_plain _ _ _ (by kernel_rfl)] at h
  have h3 := h.tail.tail.tail
  obtain ⟨a, s, hv, -, -, -⟩ := laid_sentinel h3 gR tR Tryz.underlying128 row166 Tryz.underlying166 Tryz.underlying168 rfl rfl Tryz.underlying9 (by kernel_rfl) (by kernel_rfl)
  refine ⟨166, .pointer (some a), ?_⟩
  have := World.var?_cell gR hv 0
  simpa using this

theorem pow_eq : (Rows.laid_internal_strconv_uint64pow10 : DataW Unit) = Lib.tabData .u64 Lib.pow10Tab := by kernel_rfl
theorem tb_of_tab {W : World} {n : String} (hg : Tryz.prog.globalNamed n = some 2) (h : Lib.TabIs Tryz.prog W n .u64 Lib.pow10Tab) : Tb W := by
  unfold Lib.TabIs World.var? at h
  rw [hg, Option.bind_some] at h
  split at h
  · rename_i cs t f hh
    cases h
    exact ⟨t, f, hh⟩
  · cases h
theorem tb_of_laid {W : World} (h : laidMetH Tryz.prog Rows.textOneRow.laid W) : Tb W := by
  rw [MakeChecks.laidMetH_plain _ _ _ (by kernel_rfl)] at h
  have h2 := h.tail.tail
  rw [pow_eq] at h2
  exact tb_of_tab (by kernel_rfl) (Lib.tabIs_of_head (g := 2) (by kernel_rfl) (by kernel_rfl) Tryz.underlying147 Tryz.underlying25 (by kernel_rfl) (by kernel_rfl) h2)

set_option maxRecDepth 100000 in
theorem lifted (os : Os) (started : os.Started) (H : Type) (enc : TypeId × Value → H) :
    ReturnsInHanded {} Tryz.checked os 4 .any (fun w args => (Rows.textOneSpec.pre enc Tryz.prog Tryz.f4 [] false w args ∧ laidMetH Tryz.prog Rows.textOneRow.laid w) ∧ sizedMet enc Tryz.prog Tryz.f4 (OpenSpec.ofChange Rows.textOneSpec) false w args)
      (Rows.textOneSpec.post enc Tryz.prog Tryz.f4 false true false false) := by
  refine returnsInHanded_of_change_and (C := Tryz.checked) (X := fun w _ => laidMetH Tryz.prog Rows.textOneRow.laid w) (fun _ _ _ hh h => h.of_heap hh) own started (by kernel_rfl) Tryz.func4
    (ChangeSpec.witness_shaped (enc := enc) (C := Tryz.checked) (os := os) (X := fun w _ => laidMetH Tryz.prog Rows.textOneRow.laid w) false (World.laidAll Tryz.prog os Rows.textOneRow.laid) #[.string ⟨#[]⟩] 8 (World.laidAll_os _ _ _) (World.shaped_of_ZipB (by kernel_rfl) (by kernel_rfl)) (by kernel_rfl) (by kernel_rfl) (by kernel_rfl)
      (by rw [MakeChecks.laidMetH_plain _ _ _ (by kernel_rfl)]; exact laidMet_laidAll _ (by kernel_rfl) (by kernel_rfl))) ?_
  intro W base args ds gs before hval0 hW _ _ hL _
  have hval : ∀ (j : Nat) t v, Tryz.f4.params[j]? = some t → args[j]? = some v → Value.okWide Tryz.prog W .any base t v := hval0
  have hW' := hW
  obtain ⟨p, q, hA0, hV, rfl, hfz, hnd⟩ := hW
  have hA : DataW.TrodAll enc Tryz.prog W 0 (fun _ => true) true Tryz.f4.params.toList args.toList ds p := hA0
  rw [Tryz.params4] at hA hval
  obtain ⟨v0, d0, rfl, rfl, h0⟩ := trodAll_one hA
  obtain ⟨rfl, rfl⟩ := trodVars_none hV
  obtain ⟨s, rfl, rfl, rfl, hs⟩ := open_string Tryz.underlying9 (hval 0 9 v0 rfl rfl) h0
  clear hA0 hval0
  simp only [List.append_nil] at hW'
  refine (one_walk alive_ok s W (er_of_laid hL) (tb_of_laid hL)).mono fun e W' ⟨he, hg⟩ => ?_
  subst he
  have hb : Below W.heap.size W W' := hg.below (Nat.le_refl _) (fun _ h => h.elim)
  exact ⟨_, rfl, _, _, _, [], [], [], hW', trodAll_mk1 (shut_bool Tryz.underlying4 _), trodAll_mk1 (shut_string Tryz.underlying9 hs), rfl, hb.frame _, fun h => by cases h⟩

theorem said : Rows.TextOneSaid :=
  OpenClaim.holds_of_wide 4 Tryz.f4 rfl rfl rfl rfl rfl rfl rfl ⟨rfl, rfl, rfl, rfl, rfl⟩ rfl rfl rfl rfl rfl (by kernel_rfl) Tryz.func4 (by kernel_rfl)
    (of_decide_eq_true (by kernel_rfl)) (by unfold Func.isWrapper; first | (rw [if_pos (by decide +kernel)]; kernel_rfl) | (rw [if_neg (by decide +kernel)]; exact ⟨rfl, rfl⟩))
    (fun os started H enc _ => lifted os started H enc)

/-- The tied card. -/
theorem proved : Rows.TextOneCardSaid :=
  Claim7.holds_tied_plain_at .later [] [.data, .data, .data, .sentinel, .sentinel] true (true, "7d80a57bc80581677c27a09602b25bab6c66a30fc7a59149a61d12c3132de8fa") true
    said (fun _ h => by cases h) (by kernel_rfl) (fun _ h => by cases h) textOne_row_tie rfl ⟨rfl, rfl⟩ (by kernel_rfl) rfl
    (fun f fn hf hfn => by
      obtain rfl : f = 4 := Option.some.inj ((show Tryz.prog.funcNamed "rookery/rookerylaw04.TextOne" = some 4 by kernel_rfl).symm.trans hf) |>.symm
      obtain rfl : fn = Tryz.f4 := (Option.some.inj (Tryz.func4.symm.trans hfn)).symm
      exact ⟨by kernel_rfl, fun j t ht => by
        rw [Tryz.params4] at ht
        have hm : t ∈ [9] := by simpa using Array.mem_of_getElem? ht
        have hall : ([9].all fun u => !Tryz.prog.wantsStandIn u) = true := by kernel_rfl
        exact (show Tryz.prog.wantsStandIn t = false by simpa using List.all_eq_true.1 hall t hm)⟩)
    (by kernel_rfl)
end Go.Proofs.YtdmichjhmfinpaaGreatDoor.textOne
namespace Go.Proofs.YtdmichjhmfinpaaGreatDoor
/-- What is read of a text has just that text: the law TextOne, as its tied card says it. -/
theorem textOne_holds : Rows.TextOneCardSaid := textOne.proved
#print axioms textOne_holds
end Go.Proofs.YtdmichjhmfinpaaGreatDoor
