/-
  The reference's reader: a tuple or list that grows; errors are not 0.
-/
import Derived.Test.YtmohehfkbhllpaaGreatVF
import Derived.Test.YtmohehfkbhllpaaGreatKE
set_option linter.unusedVariables false
set_option linter.unusedSimpArgs false
namespace Go.Proofs.YtmohehfkbhllpaaGreat
open Go.RowKit Go.Maps
variable {S S' Z : Nat → Prop} {W W1 W' : World}
/-! ### Errors are not 0 -/
theorem nmb_er1 : ∀ (f k a : Nat) (m : List Int) (c : Int), nmb f k a m = .error c → 1 ≤ c
  | 0, k, a, m, c, h => by simp [nmb] at h
  | f + 1, k, a, [], c, h => by simp [nmb] at h; omega
  | f + 1, k, a, x :: m, c, h => by
    rw [nmb] at h
    split at h
    · cases h; decide
    · split at h
      · cases h
      · exact nmb_er1 f _ _ m c h
theorem nwq_er {m : List Int} {l : List ByteArray} {c : Int} (h : nwq m l = .error c) : 1 ≤ c := by
  unfold nwq at h
  split at h
  · cases h; decide
  · split at h
    · cases h; decide
    · split at h
      · cases h; decide
      · split at h
        · cases h; decide
        · split at h
          · cases h
          · cases h; decide
theorem nmq_er {m : List Int} {l : List ByteArray} {c : Int} (h : nmq m l = .error c) : 1 ≤ c := by
  unfold nmq at h
  split at h
  · rename_i e hr; cases h; exact nmb_er1 _ _ _ _ _ hr
  · split at h
    · cases h; decide
    · split at h
      · split at h
        · rename_i e hr; cases h; exact nwq_er hr
        · cases h
      · cases h
theorem idq_er {m : List Int} {c : Int} (h : idq m = .error c) : 1 ≤ c := by
  unfold idq at h
  split at h
  · cases h; decide
  · split at h
    · rename_i e hr; cases h; exact nmb_er1 _ _ _ _ _ hr
    · split at h
      · cases h; decide
      · split at h
        · rename_i e hr; cases h; exact nmb_er1 _ _ _ _ _ hr
        · cases h
theorem rwq_er {m : List Int} {n : Nat} {c : Int} (h : rwq m n = .error c) : 1 ≤ c := by
  unfold rwq at h
  split at h
  · rename_i e hr; cases h; exact nmb_er1 _ _ _ _ _ hr
  · split at h
    · cases h; decide
    · split at h
      · cases h; decide
      · cases h
theorem elq_er {p : List Int → Nat → List ByteArray → Except Int (Tm × List Int × Nat × List ByteArray)} (hp : ∀ m n l c, p m n l = .error c → 1 ≤ c) : ∀ (u : Nat) (m : List Int) (n : Nat) (l : List ByteArray) (acc : List Tm) (c : Int), elq p u m n l acc = .error c → 1 ≤ c
  | 0, m, n, l, acc, c, h => by simp [elq] at h
  | u + 1, m, n, l, acc, c, h => by
    rw [elq] at h
    split at h
    · rename_i e hr; cases h; exact hp _ _ _ _ hr
    · exact elq_er hp u _ _ _ _ c h
theorem knq_er {p : List Int → Nat → List ByteArray → Except Int (Tm × List Int × Nat × List ByteArray)} (hp : ∀ m n l c, p m n l = .error c → 1 ≤ c) (k : Int) (m : List Int) (n : Nat) (l : List ByteArray) (c : Int) (h : knq p k m n l = .error c) : 1 ≤ c := by
  unfold knq at h
  split at h
  · split at h
    · rename_i e hr; cases h; exact nmb_er1 _ _ _ _ _ hr
    · split at h
      · cases h
      · cases h; decide
  · split at h
    · split at h
      · cases h; decide
      · split at h
        · cases h
        · cases h; decide
    · split at h
      · split at h
        · rename_i e hr; cases h; exact nmq_er hr
        · cases h
      · split at h
        · split at h
          · rename_i e hr; cases h; exact idq_er hr
          · split at h
            · cases h
            · cases h; decide
        · split at h
          · split at h
            · rename_i e hr; cases h; exact nmb_er1 _ _ _ _ _ hr
            · split at h
              · cases h; decide
              · split at h
                · rename_i e hr; cases h; exact elq_er hp _ _ _ _ _ _ hr
                · cases h
          · split at h
            · split at h
              · rename_i e hr; cases h; exact rwq_er hr
              · cases h
            · cases h; decide
theorem ptq_er (r : Nat) : ∀ (m : List Int) (n : Nat) (l : List ByteArray) (c : Int), ptq r m n l = .error c → 1 ≤ c := by
  induction r with
  | zero => intro m n l c h; simp [ptq] at h; omega
  | succ r ih =>
    intro m n l c h
    simp only [ptq] at h
    split at h
    · cases h; decide
    · split at h
      · cases h; decide
      · exact knq_er ih _ _ _ _ _ h
theorem decV_er {b : List Int} {c : Int} (h : decV b = .error c) : 1 ≤ c := by
  unfold decV at h
  split at h
  · cases h; decide
  · split at h
    · cases h; decide
    · split at h
      · split at h
        · rename_i e hr; cases h; exact ptq_er _ _ _ _ _ hr
        · unfold fin7 at h
          split at h
          · cases h
          · cases h; decide
      · cases h; decide


theorem cells9 (w : World) (v0 v1 v2 v3 v4 v5 v6 v7 v8 : Value) (t : TypeId) : ∀ (j : Nat) (u : Value), [v0, v1, v2, v3, v4, v5, v6, v7, v8][j]? = some u → (w.alloc (.cells #[v0, v1, v2, v3, v4, v5, v6, v7, v8] t)).cell? ((⟨w.heap.size, 0, none⟩ : Addr).add j) = some u := by
  intro j u h
  have hh := heap_alloc_new w (.cells #[v0, v1, v2, v3, v4, v5, v6, v7, v8] t)
  have e : (⟨w.heap.size, 0, none⟩ : Addr).add j = ⟨w.heap.size, j, none⟩ := by
    by_cases hj : j = 0 <;> simp [Addr.add, hj]
  rw [e]
  simp only [World.cell?]
  rw [hh]
  simpa using h
theorem cells9_at (w : World) (N : Nat) (h : w.heap.size = N) (v0 v1 v2 v3 v4 v5 v6 v7 v8 : Value) (t : TypeId) : ∀ (j : Nat) (u : Value), [v0, v1, v2, v3, v4, v5, v6, v7, v8][j]? = some u → (w.alloc (.cells #[v0, v1, v2, v3, v4, v5, v6, v7, v8] t)).cell? ((⟨N, 0, none⟩ : Addr).add j) = some u := by
  subst h; exact cells9 _ _ _ _ _ _ _ _ _ _ _
/-- A state of the reference's, blocks for the answer, and a tuple or list that grows. -/
structure Sl (W : World) (N tb : Nat) (bv nv : Value) (i n : Nat) (c kd : Int) (u : Value) (l : List Tm) (vs : List Value) (X : World) : Prop where
  sp : Sp W N tb bv nv i n c #[.int .i64 kd, .int .i64 0, .complex .f64 0 0, .string e0, .int .i64 0, .int .u32 0, .int .u64 0, nl, u] X
  row : X.ownsRow (tb + 1) 31 9 u l.length (vs.flatMap cellsOf)
  reps : Reps (fun z => tb + 1 ≤ z ∧ u.ownBlock ≠ some z) X l vs
  nil : l = [] → u = nl
section
variable {N tb : Nat} {bv nv : Value} {i n : Nat} {c kd : Int} {u : Value} {l : List Tm} {vs : List Value} {X X' : World}
theorem Sl.size (h : Sl W N tb bv nv i n c kd u l vs X) : tb + 1 ≤ X.heap.size := (Array.getElem?_eq_some_iff.1 h.sp.tm).1
theorem Sl.turn (h : Sl W N tb bv nv i n c kd u l vs X) (g : Gr (fun _ => False) X X') : Sl W N tb bv nv i n c kd u l vs X' :=
  ⟨h.sp.turn g, ownsRow_gr h.row g (fun _ _ e => e), h.reps.turn (fun z hz hlt => ⟨hz, g.block z hlt (fun e => e)⟩), h.nil⟩
theorem Sl.set (hN : W.heap.size ≤ N) (h : Sl W N tb bv nv i n c kd u l vs X) (bv' nv' : Value) (i' n' : Nat) (c' iv : Int) (e : iv = (i' : Int)) (nz : Int) (e' : nz = (n' : Int)) :
    Sl W N tb bv' nv' i' n' c' kd u l vs (((((X.setCell ⟨N, 0, none⟩ bv').setCell ⟨N, 1, none⟩ (.int .i64 iv)).setCell ⟨N, 2, none⟩ (.int .i64 nz)).setCell ⟨N, 3, none⟩ nv').setCell ⟨N, 4, none⟩ (.int .i64 c')) := by
  have hl := h.sp.lt
  have g := Gr.own5 X N bv' (.int .i64 iv) (.int .i64 nz) nv' (.int .i64 c')
  exact ⟨h.sp.set hN bv' nv' i' n' c' iv e nz e', ownsRow_gr h.row g (fun _ h1 h2 => by omega), h.reps.turn (fun z hz hlt => ⟨hz, g.block z hlt (by omega)⟩), h.nil⟩
theorem Sl.gr' (h : Sl W N tb bv nv i n c kd u l vs X) {o : Obj} (hg : (X.alloc o).grownBy X' u.ownBlock) : Gr (fun k => u.ownBlock = some k) X X' :=
  (Gr.alloc X o _).trans (Gr.of_grown hg (fun z e => e))
theorem Sl.grown (hN : W.heap.size ≤ N) (h : Sl W N tb bv nv i n c kd u l vs X) {o : Obj} (hg : (X.alloc o).grownBy X' u.ownBlock) : Sp W N tb bv nv i n c #[.int .i64 kd, .int .i64 0, .complex .f64 0 0, .string e0, .int .i64 0, .int .u32 0, .int .u64 0, nl, u] X' := by
  have G : Gr (fun k => tb + 1 ≤ k) X X' := (Gr.alloc X o _).trans (Gr.of_grown hg (fun z e => (ownsRow_lt h.row z e).1))
  have hl := h.sp.lt
  exact ⟨⟨G.keep h.sp.sx.st (by omega), G.keep h.sp.sx.out (by omega), h.sp.sx.gr.trans' G (fun i hi e => absurd e (by omega))⟩, G.keep h.sp.ot (by omega), G.keep h.sp.tm (by omega), h.sp.lt⟩
/-- The first cell of a row of terms is a whole number. -/
theorem Reps.int {A : Nat → Prop} (h : Reps A X l vs) (hl : l ≠ []) : ∃ k, (vs.flatMap cellsOf)[0]? = some (.int .i64 k) := by
  cases l with
  | nil => exact absurd rfl hl
  | cons T r =>
    obtain ⟨v, r', rfl, k1, k2⟩ := h
    obtain ⟨k, n, x, y, s, a, c, d, a1, n1, c1, a2, n2, c2, rfl⟩ := Rep.agg k1
    exact ⟨k, by simp [cellsOf]⟩
/-- Names stay where a row of terms grows. -/
theorem Sl.snap (h : Sl W N tb bv nv i n c kd u l vs X) {o : Obj} (hg : (X.alloc o).grownBy X' u.ownBlock) {v : Value} {xs : List ByteArray} (hs : Snap X v xs) : Snap X' v xs := by
  refine hs.off (h.gr' hg) (fun k hk => ?_)
  by_cases hl : l = []
  · rw [h.nil hl] at hk; cases hk
  · obtain ⟨q, hq⟩ := h.reps.int hl
    rcases h.row.2 with ⟨e, h0⟩ | ⟨g, cap, cur, e, h1, h2, h3, h4, h5, h6⟩
    · exact absurd (List.eq_nil_of_length_eq_zero h0) hl
    · have e1 : g = k := by rw [e] at hk; simpa [Value.ownBlock] using hk
      subst e1
      have e2 : (cur.toList.take (l.length * 9))[0]? = some (.int .i64 q) := by rw [h6]; exact hq
      have hl9 : 0 < l.length := by
        cases l with
        | nil => exact absurd rfl hl
        | cons _ _ => simp
      rw [List.getElem?_take_of_lt (by omega)] at e2
      exact ⟨.int .i64 q, by simp only [World.cell?, h2]; simpa using e2, fun s e => by cases e⟩
theorem Sl.app (hN : W.heap.size ≤ N) (h : Sl W N tb bv nv i n c kd u l vs X) {o : Obj} {v' v : Value} {T : Tm} {cs : List Value} (hr : X'.ownsRow (tb + 1) 31 9 v' (l.length + 1) (vs.flatMap cellsOf ++ cs)) (hc : cs = cellsOf v)
    (hg : (X.alloc o).grownBy X' u.ownBlock) (hloc : v'.ownBlock = u.ownBlock ∨ v'.ownBlock = some (X.alloc o).heap.size) (hrep : Rep (fun z => tb + 1 ≤ z ∧ u.ownBlock ≠ some z) X T v) :
    Sl W N tb bv nv i n c kd v' (l ++ [T]) (vs ++ [v]) (X'.setCell ⟨tb, 8, none⟩ v') := by
  subst hc
  have ht : Turn (fun z => tb + 1 ≤ z ∧ u.ownBlock ≠ some z) (fun z => tb + 1 ≤ z ∧ v'.ownBlock ≠ some z) X X' := by
    intro z hz hlt
    have h1 : v'.ownBlock ≠ some z := by
      rcases hloc with e | e
      · rw [e]; exact hz.2
      · rw [e, World.size_alloc]; intro e2; cases e2; omega
    exact ⟨⟨hz.1, h1⟩, (hg.block z (by rw [World.size_alloc]; omega) (fun e => hz.2 e.symm)).trans (heap_alloc_old X o hlt)⟩
  have hall := (h.reps.turn ht).snoc (hrep.turn ht)
  have g := own1 X' tb 8 v'
  have hrow : X'.ownsRow (tb + 1) 31 9 v' (l ++ [T]).length ((vs ++ [v]).flatMap cellsOf) := by
    rw [List.length_append, List.flatMap_append]; simpa using hr
  exact ⟨(h.grown hN hg).cell hN 8 v', ownsRow_gr hrow g (fun _ h1 h2 => by omega), hall.turn (fun z hz hlt => ⟨hz, g.block z hlt (by omega)⟩), fun e => by simp at e⟩
end
theorem Turn.drew {A A' : Nat → Prop} {X Y : World} (h : Turn A A' X Y) : Turn A A' X Y.drew := fun z hz hlt => h z hz hlt
theorem turn14 (X : World) (g M B : Nat) (h1 : g + 1 < M) (h2 : B ≤ M) (v0 v1 v2 v3 v4 u0 u1 u2 u3 u4 u5 u6 u7 u8 : Value) : Turn (fun k => M ≤ k) (fun k => B ≤ k) X
    ((((((((((((((X.setCell ⟨g, 0, none⟩ v0).setCell ⟨g, 1, none⟩ v1).setCell ⟨g, 2, none⟩ v2).setCell ⟨g, 3, none⟩ v3).setCell ⟨g, 4, none⟩ v4).setCell ⟨g + 1, 0, none⟩ u0).setCell ⟨g + 1, 1, none⟩ u1).setCell ⟨g + 1, 2, none⟩ u2).setCell ⟨g + 1, 3, none⟩ u3).setCell ⟨g + 1, 4, none⟩ u4).setCell ⟨g + 1, 5, none⟩ u5).setCell ⟨g + 1, 6, none⟩ u6).setCell ⟨g + 1, 7, none⟩ u7).setCell ⟨g + 1, 8, none⟩ u8) := fun z hz hlt =>
  ⟨Nat.le_trans h2 hz, (((Gr.own5 X g v0 v1 v2 v3 v4).mono (S' := fun k => k < M) (fun i _ e => by omega)).trans ((Gr.own9 _ (g + 1) u0 u1 u2 u3 u4 u5 u6 u7 u8).mono (S' := fun k => k < M) (fun i _ e => by omega))).block z hlt (by omega)⟩
/-- What a call of the reference's part does, r deeper levels being left. -/
def PartR (Z : Nat → Prop) (ba : Option Addr) (bc : Nat) (m : List Int) (r : Nat) : Prop := ∀ (W : World) (na : Option Addr) (nc : Nat) (l : List ByteArray) (i n : Nat) (d : Int), 1 ≤ d → d + r = 25 → i ≤ m.length → n ≤ 4096 → Sq Z W (.slice ba m.length bc) m → Snap W (.slice na l.length nc) l → l.length ≤ n →
  Calls Tryz.prog 16 #[sv (.slice ba m.length bc) i n (.slice na l.length nc) 0, .int .i64 d] W fun e w' => EndP ba bc m W e w' (ptq r (m.drop i) n l) ∧ Gr (fun _ => False) W w'
end Go.Proofs.YtmohehfkbhllpaaGreat
