/-
  Carried over from another seat of ours (AY).
-/
import Derived.Test.YticgnaikbmnagaaAT
import Derived.Test.YticgnaikbmnagaaV
set_option linter.unusedVariables false
set_option linter.unusedSimpArgs false
namespace Go.Proofs.Yticgnaikbmnagaa
open Go.RowKit Go.Maps Go.Shelf

abbrev ptr (g o : Nat) : Value := .pointer (some ⟨g, o, none⟩)
/-- A tree stands in block g from o on, in memory that only blocks of A hold. -/
def At (A : Nat → Prop) (W : World) (T : Tm) (g o : Nat) : Prop :=
  A g ∧ ∃ v, Rep A W T v ∧ ∀ j u, (cellsOf v)[j]? = some u → W.cell? ⟨g, o + j, none⟩ = some u
theorem At.turn {A : Nat → Prop} {W W' : World} {T : Tm} {g o : Nat} (h : At A W T g o) (k : ∀ i, A i → W'.heap[i]? = W.heap[i]?) : At A W' T g o := by
  obtain ⟨h1, v, h2, h3⟩ := h
  refine ⟨h1, v, h2.turn (fun i hi _ => ⟨hi, k i hi⟩), fun j u hu => ?_⟩
  rw [World.cell?_of_block (w' := W') (w := W) (a := ⟨g, o + j, none⟩) (k g h1)]
  exact h3 j u hu
/-- The row of a tree's elements. -/
theorem At.row {A : Nat → Prop} {W : World} {t : Lf} {bs : List Int} {l : List Tm} {g o : Nat} (h : At A W (.mk t bs l) g o) :
    ∃ a n c, W.cell? ⟨g, o + 8, none⟩ = some (.slice a n c) ∧ n = l.length ∧ (l ≠ [] → ∃ b, a = some ⟨b, 0, none⟩ ∧ n ≤ c ∧ ∀ k x, l[k]? = some x → At A W x b (k * 9)) := by
  obtain ⟨h1, v, ⟨bv, lv, vs, rfl, k1, k2, k3⟩, h3⟩ := h
  have hc := h3 8 lv (by rcases k1 with ⟨_, a, c, rfl⟩ | ⟨b, cap, cur, rfl, _⟩ <;> rcases k2 with ⟨_, a', c', rfl⟩ | ⟨b', cap', cur', rfl, _⟩ <;> rfl)
  rcases k2 with ⟨h0, a, c, rfl⟩ | ⟨b, cap, cur, rfl, hb, hcur, hcap, htake⟩
  · exact ⟨a, 0, c, hc, h0.symm, fun e => absurd (List.length_eq_zero_iff.1 h0) e⟩
  · refine ⟨_, _, cap, hc, rfl, fun _ => ⟨b, rfl, hcap, fun k x hx => ?_⟩⟩
    obtain ⟨w, r1, r2⟩ := reps_at l vs k3 k x hx
    refine ⟨hb, w, r1, fun j u hu => ?_⟩
    have e := r2 j u hu
    rw [← htake] at e
    have hlt : k * 9 + j < l.length * 9 := by
      rcases Nat.lt_or_ge (k * 9 + j) (l.length * 9) with h | h
      · exact h
      · rw [List.getElem?_eq_none (by simp; omega)] at e; cases e
    rw [List.getElem?_take_of_lt hlt] at e
    simp only [World.cell?, hcur]
    simpa using e

/-- More than how deep a row's trees are, and how wide. -/
def hgtL : List Tm → Nat
  | [] => 0
  | .mk _ _ l :: r => max (hgtL l + l.length + 1) (hgtL r)
/-- More than how deep a tree is, and how wide. -/
def hgt : Tm → Nat
  | .mk _ _ l => hgtL l + l.length + 1
theorem hgtL_cons (x : Tm) (l : List Tm) : hgtL (x :: l) = max (hgt x) (hgtL l) := by cases x; rw [hgtL, hgt]
theorem hgtL_mem : ∀ (l : List Tm) (k : Nat) (x : Tm), l[k]? = some x → hgt x ≤ hgtL l
  | [], k, x, h => by simp at h
  | y :: l, 0, x, h => by
    simp only [List.getElem?_cons_zero, Option.some.injEq] at h
    subst h
    rw [hgtL_cons]; exact Nat.le_max_left _ _
  | y :: l, k + 1, x, h => by
    have := hgtL_mem l k x (by simpa using h)
    rw [hgtL_cons]; exact Nat.le_trans this (Nat.le_max_right _ _)
section
variable {σ ε : Type}
/-- What comes of going over all parts of a row, in their order, at depth d and on. -/
def goL (step : Int → Tm → σ → Except ε σ) : List Tm → Int → σ → Except ε σ
  | [], _, s => .ok s
  | .mk t bs x :: l, d, s => match (match step d (.mk t bs x) s with
      | .error e => .error e
      | .ok s' => goL step x (d + 1) s' : Except ε σ) with
    | .error e => .error e
    | .ok s' => goL step l d s'
/-- .. of a tree. -/
def goT (step : Int → Tm → σ → Except ε σ) : Tm → Int → σ → Except ε σ
  | .mk t bs l, d, s => match step d (.mk t bs l) s with
    | .error x => .error x
    | .ok s' => goL step l (d + 1) s'
theorem goL_cons (step : Int → Tm → σ → Except ε σ) (x : Tm) (l : List Tm) (d : Int) (s : σ) : goL step (x :: l) d s = match goT step x d s with
    | .error e => .error e
    | .ok s' => goL step l d s' := by
  cases x; rw [goL, goT]
/-- Each part of a row that is gone over is as P says. -/
def okL (P : Int → Tm → σ → Prop) (step : Int → Tm → σ → Except ε σ) : List Tm → Int → σ → Prop
  | [], _, _ => True
  | .mk t bs x :: l, d, s => (P d (.mk t bs x) s ∧ ∀ s', step d (.mk t bs x) s = .ok s' → okL P step x (d + 1) s') ∧ ∀ s', goT step (.mk t bs x) d s = .ok s' → okL P step l d s'
/-- .. of a tree. -/
def okT (P : Int → Tm → σ → Prop) (step : Int → Tm → σ → Except ε σ) : Tm → Int → σ → Prop
  | .mk t bs l, d, s => P d (.mk t bs l) s ∧ ∀ s', step d (.mk t bs l) s = .ok s' → okL P step l (d + 1) s'
theorem okL_cons (P : Int → Tm → σ → Prop) (step : Int → Tm → σ → Except ε σ) (x : Tm) (l : List Tm) (d : Int) (s : σ) : okL P step (x :: l) d s = (okT P step x d s ∧ ∀ s', goT step x d s = .ok s' → okL P step l d s') := by
  cases x; rw [okL, okT]
end
/-- Blocks from B on that were there are as they were. -/
def Kx (B : Nat) (W W' : World) : Prop := W.heap.size ≤ W'.heap.size ∧ ∀ k, B ≤ k → k < W.heap.size → W'.heap[k]? = W.heap[k]?
theorem Kx.refl (B : Nat) (W : World) : Kx B W W := ⟨Nat.le_refl _, fun _ _ _ => rfl⟩
theorem Kx.trans {B : Nat} {W W1 W' : World} (h : Kx B W W1) (k : Kx B W1 W') : Kx B W W' :=
  ⟨Nat.le_trans h.1 k.1, fun i h1 h2 => (k.2 i h1 (Nat.lt_of_lt_of_le h2 h.1)).trans (h.2 i h1 h2)⟩
theorem Kx.mono {B B' : Nat} {W W' : World} (h : Kx B W W') (hB : B ≤ B') : Kx B' W W' := ⟨h.1, fun i h1 h2 => h.2 i (Nat.le_trans hB h1) h2⟩
theorem Kx.of_gr {S : Nat → Prop} {B : Nat} {W W' : World} (h : Gr S W W') (hS : ∀ k, k < W.heap.size → S k → k < B) : Kx B W W' :=
  ⟨h.size, fun i h1 h2 => h.block i h2 (fun e => by have := hS i h2 e; omega)⟩
theorem Kx.keep {B k : Nat} {W W' : World} {o : Obj} (h : Kx B W W') (hk : W.heap[k]? = some o) (hB : B ≤ k) : W'.heap[k]? = some o :=
  (h.2 k hB (Array.getElem?_eq_some_iff.1 hk).1).trans hk

/-- Going over the parts of a tree does as its fold says. -/
def PartsLaw (T : Tm) : Prop := ∀ (σ ε : Type) (P : Int → Tm → σ → Prop) (step : Int → Tm → σ → Except ε σ) (A : Nat → Prop) (W0 : World) (B lp : Nat) (J : σ → World → Prop) (Jx : ε → World → Prop),
  (∀ s W W', J s W → Gr (fun k => B ≤ k) W W' → J s W') → (∀ x W W', Jx x W → Gr (fun k => B ≤ k) W W' → Jx x W') →
  (∀ k, A k → k < B) → (∀ s W, J s W → ∀ k, A k → W.heap[k]? = W0.heap[k]?) →
  (∀ s d T' g o W, P d T' s → At A W0 T' g o → J s W → B ≤ W.heap.size → YieldAt Fence.wide 1 Try.prog lp #[.int .i64 d, ptr g o] W fun e W' => Kx B W W' ∧
    ((∃ s', step d T' s = .ok s' ∧ e = .returned (.bool true) ∧ J s' W') ∨ (∃ x, step d T' s = .error x ∧ e = .returned (.bool false) ∧ Jx x W'))) →
  ∀ (d : Int) (s : σ) (g o bd bt : Nat) (W : World), 0 ≤ d → d + hgt T < 9223372036854775807 → okT P step T d s → At A W0 T g o → B ≤ W.heap.size → J s W →
  (∀ s' W', J s' W' → Kx B W W' → W'.cell? ⟨bd, 0, none⟩ = some (.int .i64 d) ∧ W'.cell? ⟨bt, 0, none⟩ = some (ptr g o)) →
  Calls Try.prog 46 #[.func (.yield lp) #[] #[], pt bd, pt bt] W fun e W' => (∃ v, e = .returned v) ∧ Kx B W W' ∧
    ((∃ s', goT step T d s = .ok s' ∧ J s' W') ∨ (∃ x, goT step T d s = .error x ∧ Jx x W'))

/-- How a round over a part ends. -/
def partPost {σ ε : Type} (B : Nat) (r : Except ε σ) (I : σ → World → Prop) (Ix : ε → World → Prop) (W : World) : Exit → Act → World → Prop
  | .normal, _, W' => Kx B W W' ∧ ∃ s', r = .ok s' ∧ I s' W'
  | .ret, _, W' => Kx B W W' ∧ ∃ x, r = .error x ∧ Ix x W'
  | _, _, _ => False

set_option maxHeartbeats 1000000 in
theorem rangeParts {T : Tm} (hT : PartsLaw T) {n : Nat} {q : Operand} {ps : Array Tmp} {assign body : Code} {Q : Exit → Act → World → Prop} {a : Act} {w : World} {bd bt g o : Nat} {d : Int} {σ ε : Type}
    (P : Int → Tm → σ → Prop) (step : Int → Tm → σ → Except ε σ) (A : Nat → Prop)
    (hg : a.eval q = .func (.func 46) #[] #[pt bd, pt bt]) (hps : ps.size = 2) (hd0 : 0 ≤ d) (hd : d + hgt T < 9223372036854775807) (hat : At A w T g o) (hA : ∀ k, A k → k < w.heap.size)
    (I : σ → World → Prop) (Ix : ε → World → Prop)
    (hI : ∀ s W W', I s W → Gr (fun k => w.heap.size ≤ k) W W' → I s W') (hIx : ∀ x W W', Ix x W → Gr (fun k => w.heap.size ≤ k) W W' → Ix x W')
    (hIA : ∀ s W, I s W → ∀ k, A k → W.heap[k]? = w.heap[k]?)
    (hbox : ∀ s W, I s W → W.cell? ⟨bd, 0, none⟩ = some (.int .i64 d) ∧ W.cell? ⟨bt, 0, none⟩ = some (ptr g o))
    (s : σ) (hok : okT P step T d s) (h0 : I s w) (a₁ : Int → Nat → Nat → Act)
    (hassign : ∀ (d : Int) (g o l : Nat) (W : World) (K : Act → World → Prop), K (a₁ d g o) W →
      assign.wpIn (Fence.wide.inRound l) 1 Try.prog (Exit.then K (fun _ _ _ => False)) { tmps := (ps.zip #[.int .i64 d, ptr g o]).foldl (fun t (p, v) => t.setIfInBounds p v) a.tmps, defers := [] } W)
    (hbody : ∀ (s : σ) (d : Int) (T' : Tm) (g o : Nat) (W : World), P d T' s → At A w T' g o → I s W → w.heap.size + 1 < W.heap.size →
      body.wpIn (Fence.wide.inRound (w.heap.size + 1)) 1 Try.prog (partPost w.heap.size (step d T' s) I Ix W) (a₁ d g o) W)
    (hdone : ∀ s' W, goT step T d s = .ok s' → I s' W → W.heap[w.heap.size]? = some (.deferred (some [])) → w.heap.size ≤ W.heap.size → Q .normal { a with defers := { target := .collected w.heap.size, args := #[] } :: a.defers } W)
    (hstop : ∀ x W, goT step T d s = .error x → Ix x W → W.heap[w.heap.size]? = some (.deferred (some [])) → w.heap.size ≤ W.heap.size → Code.ret.wpIn Fence.wide n Try.prog Q { a with defers := { target := .collected w.heap.size, args := #[] } :: a.defers } W) :
    (Code.rangeFunc q ps assign body).wpIn Fence.wide n Try.prog Q a w := by
  refine wpIn_rangeFunc ?_
  intro fn _
  obtain ⟨B, hB⟩ : ∃ B, w.heap.size = B := ⟨_, rfl⟩
  obtain ⟨rec, hrec⟩ : ∃ rec : LoopState → Option Code → Loop, rec = fun st pe => { state := st, pending := pe, fn, tmps := a.tmps, params := ps, assign, body, defers := B } := ⟨_, rfl⟩
  obtain ⟨W1, hW1⟩ : ∃ W1, (w.alloc (.deferred (some []))).alloc (.loop (rec .ready none)) = W1 := ⟨_, rfl⟩
  have hL1 : W1.heap[B + 1]? = some (.loop (rec .ready none)) := by
    rw [← hW1, ← hB]; have := World.alloc_heap_new (w.alloc (.deferred (some []))) (.loop (rec .ready none)); rwa [World.size_alloc] at this
  have hK1 : W1.heap[B]? = some (.deferred (some [])) := by
    rw [← hW1, ← hB]; exact (Below.heap_alloc _ _ _ (by simp)).trans (World.alloc_heap_new w _)
  have hT1 : Gr (fun _ => False) w W1 := by rw [← hW1]; exact (Gr.alloc _ _ _).trans (Gr.alloc _ _ _)
  have hs1 : W1.heap.size = B + 2 := by rw [← hW1, ← hB]; simp
  rw [hB] at hA hI hIx hbody hdone hstop
  refine ⟨B + 1, [{ target := .collected B, args := #[] }], W1, { target := .fn (.func 46) #[pt bd, pt bt], args := #[.func (.yield (B + 1)) #[] #[]] }, W1, 46,
    #[.func (.yield (B + 1)) #[] #[]] ++ #[pt bd, pt bt], W1, ?_, ?_, ?_, ?_, (by intro h; cases h), ?_⟩
  · rw [← hW1, hrec, ← hB]; exact run_enterLoop_outer _ _ _ _ _
  · simp only [resolve, hg]
    simp [go_sem]
  · intro f' _; trivial
  · simp [invoke, go_sem]
  · let J : σ → World → Prop := fun s W => I s W ∧ W.heap[B + 1]? = some (.loop (rec .ready none)) ∧ W.heap[B]? = some (.deferred (some [])) ∧ B ≤ W.heap.size
    let Jx : ε → World → Prop := fun x W => Ix x W ∧ W.heap[B + 1]? = some (.loop (rec .done (some .ret))) ∧ W.heap[B]? = some (.deferred (some [])) ∧ B ≤ W.heap.size
    have hJ0 : J s W1 := ⟨hI s w W1 h0 (hT1.mono (fun _ _ e => e.elim)), hL1, hK1, by omega⟩
    have hput : ∀ (W : World) (ob : Obj), Gr (fun k => B ≤ k) W (W.putObj (B + 1) ob) := fun W ob => Gr.of_grown (grownBy_putObj' W (B + 1) ob) (fun k e => by cases e; omega)
    have round : ∀ s d T' g o W, P d T' s → At A w T' g o → J s W → B + 2 ≤ W.heap.size → YieldAt Fence.wide 1 Try.prog (B + 1) #[.int .i64 d, ptr g o] W fun e W' => Kx (B + 2) W W' ∧
        ((∃ s', step d T' s = .ok s' ∧ e = .returned (.bool true) ∧ J s' W') ∨ (∃ x, step d T' s = .error x ∧ e = .returned (.bool false) ∧ Jx x W')) := by
      rintro s d T' g o W hp' hat' ⟨hi, hl, hk, -⟩ hBW
      have hlt : B + 1 < W.heap.size := by omega
      have hy := run_yield (P := Try.prog) (args := #[.int .i64 d, ptr g o]) hl (by rw [hrec]; exact hps.symm)
      rw [hrec] at hy
      refine ⟨fn, _, assign, body, hy, roundIn_of_wpIn trivial (hassign _ _ _ _ W _ ⟨_, run_beginRound hl (by rw [hrec]), ?_⟩)⟩
      obtain ⟨W2, hW2⟩ : ∃ W2, W.putObj (B + 1) (.loop { rec .ready none with state := .busy }) = W2 := ⟨_, rfl⟩
      have hp2 : Gr (fun k => k = B + 1) W W2 := by rw [← hW2]; exact Gr.of_grown (grownBy_putObj' W (B + 1) _) (fun k e => by cases e; rfl)
      have hl2 : W2.heap[B + 1]? = some (.loop { rec .ready none with state := .busy }) := by rw [← hW2]; exact World.putObj_heap_same hlt
      have hk2 : W2.heap[B]? = some (.deferred (some [])) := hp2.keep hk (by omega)
      have hi2 : I s W2 := hI s W _ hi (hp2.mono (fun _ _ e => by omega))
      rw [hW2]
      refine wpIn_mono (hbody s d T' g o W2 hp' hat' hi2 (Array.getElem?_eq_some_iff.1 hl2).1) ?_
      have fin : ∀ (jump : Option Code) (W3 : World), Kx B W2 W3 →
          (Instr.endRound (B + 1) jump).run Try.prog W3 = .ok (.bool jump.isNone) (W3.putObj (B + 1) (.loop (rec (if jump.isNone then .ready else .done) jump))) ∧
          (W3.putObj (B + 1) (.loop (rec (if jump.isNone then .ready else .done) jump))).heap[B + 1]? = some (.loop (rec (if jump.isNone then .ready else .done) jump)) ∧
          (W3.putObj (B + 1) (.loop (rec (if jump.isNone then .ready else .done) jump))).heap[B]? = some (.deferred (some [])) ∧
          Kx (B + 2) W (W3.putObj (B + 1) (.loop (rec (if jump.isNone then .ready else .done) jump))) ∧ B ≤ (W3.putObj (B + 1) (.loop (rec (if jump.isNone then .ready else .done) jump))).heap.size := fun jump W3 hk3 => by
        have hl3 := hk3.keep hl2 (by omega)
        have hk3' := hk3.keep hk2 (by omega)
        have := run_endRound (P := Try.prog) jump hl3
        have hp3 : Gr (fun k => k = B + 1) W3 (W3.putObj (B + 1) (.loop (rec (if jump.isNone then .ready else .done) jump))) := Gr.of_grown (grownBy_putObj' W3 (B + 1) _) (fun k e => by cases e; rfl)
        have hkx : Kx (B + 2) W (W3.putObj (B + 1) (.loop (rec (if jump.isNone then .ready else .done) jump))) :=
          ((Kx.of_gr hp2 (fun k _ e => by omega)).trans (hk3.mono (by omega))).trans (Kx.of_gr hp3 (fun k _ e => by omega))
        rw [hrec] at this hkx ⊢
        refine ⟨this, World.putObj_heap_same (Array.getElem?_eq_some_iff.1 hl3).1, (World.putObj_heap_other (by omega)).trans hk3', hkx, by have := hkx.1; omega⟩
      rintro e a3 W3 hp
      cases e with
      | normal =>
        obtain ⟨hk3, s', hs', hi3⟩ := hp
        obtain ⟨hr, hl4, hk4, hk5, hk6⟩ := fin none W3 hk3
        exact ⟨_, _, hr, hk5, .inl ⟨s', hs', rfl, hI _ _ _ hi3 (hput W3 _), hl4, hk4, hk6⟩⟩
      | ret =>
        obtain ⟨hk3, x, hx, hi3⟩ := hp
        obtain ⟨hr, hl4, hk4, hk5, hk6⟩ := fin (some .ret) W3 hk3
        exact ⟨_, _, hr, hk5, .inr ⟨x, hx, rfl, hIx _ _ _ hi3 (hput W3 _), hl4, hk4, hk6⟩⟩
      | exit id => exact hp.elim
      | goto t => exact hp.elim
      | panic ch => exact hp.elim
      | outgrown => exact hp.elim
    have behind : ∀ e W2, ((∃ v, e = .returned v) ∧ Kx (B + 2) W1 W2 ∧ ((∃ s', goT step T d s = .ok s' ∧ J s' W2) ∨ (∃ x, goT step T d s = .error x ∧ Jx x W2))) →
        rangePost Fence.wide n Try.prog (B + 1) Q { a with defers := [{ target := .collected B, args := #[] }] ++ a.defers } e W2 := by
      rintro e W2 ⟨⟨v, rfl⟩, -, (⟨s', hs', hi, hl, hk, hb⟩ | ⟨x, hx, hi, hl, hk, hb⟩)⟩
      · refine ⟨none, _, by have := run_endLoop (P := Try.prog) hl (by rw [hrec]; simp); rw [hrec] at this; exact this, hdone s' _ hs' (hI _ _ _ hi (hput W2 _)) ((World.putObj_heap_other (by omega)).trans hk) (Nat.le_trans hb (hput W2 _).size)⟩
      · refine ⟨some .ret, _, by have := run_endLoop (P := Try.prog) hl (by rw [hrec]; simp); rw [hrec] at this; exact this, hstop x _ hx (hIx _ _ _ hi (hput W2 _)) ((World.putObj_heap_other (by omega)).trans hk) (Nat.le_trans hb (hput W2 _).size)⟩
    refine CallsIn.mono (callsIn_wide.2 (hT σ ε P step A w (B + 2) (B + 1) J Jx ?_ ?_ (fun k hk => by have := hA k hk; omega) (fun s W h => hIA s W h.1) round d s g o bd bt W1 hd0 hd hok hat (by omega) hJ0 (fun s' W' h _ => hbox s' W' h.1))) behind
    · rintro s W W' ⟨hi, hl, hk, hb⟩ t
      exact ⟨hI s W W' hi (t.mono (fun _ _ e => by omega)), t.keep hl (by omega), t.keep hk (by omega), by have := t.size; omega⟩
    · rintro s W W' ⟨hi, hl, hk, hb⟩ t
      exact ⟨hIx s W W' hi (t.mono (fun _ _ e => by omega)), t.keep hl (by omega), t.keep hk (by omega), by have := t.size; omega⟩
end Go.Proofs.Yticgnaikbmnagaa



