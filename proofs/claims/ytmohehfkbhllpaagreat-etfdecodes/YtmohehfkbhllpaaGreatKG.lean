/-
  Carried over from another seat of ours (KG).
  Carried over from another seat of ours (KH).
-/
import Derived.Test.YtmohehfkbhllpaaGreatKE
import Derived.Test.YtmohehfkbhllpaaGreatBL
import Derived.Test.YtmohehfkbhllpaaGreatMA
set_option linter.unusedVariables false
set_option linter.unusedSimpArgs false
namespace Go.Proofs.YtmohehfkbhllpaaGreat
open Go.RowKit Go.Maps
variable {S S' Z F : Nat → Prop} {W W1 W' : World}

/-- The cells of a nest. -/
abbrev nestC (k : Int) (lv : Value) (w : Nat) : List Value := [.int .i64 k, .int .i64 0, .complex .f64 0 0, .string e0, .int .i64 0, .int .u32 0, .int .u64 0, nl, lv, .int .i64 (w : Int)]
/-- Open nests, the innermost first; their cells, the outermost first; B: what their elements lie in. -/
def Nst (base : Nat) (W : World) : List Ne → List Value → (Nat → Prop) → Prop
  | [], vals, _ => vals = []
  | e :: r, vals, B => ∃ lv vs A B' rest, vals = rest ++ nestC e.k lv e.w ∧ W.ownsRow base 31 9 lv e.ts.length (vs.flatMap cellsOf) ∧ Reps A W e.ts vs ∧ Nst base W r rest B' ∧ (∀ k, A k → B k ∧ ¬ B' k) ∧ (∀ k, B' k → B k) ∧ (∀ k, lv.ownBlock = some k → B k ∧ ¬ A k ∧ ¬ B' k)
theorem Nst.turn {base : Nat} : ∀ {ns : List Ne} {vals : List Value} {B : Nat → Prop}, Nst base W ns vals B → (∀ k, B k → k < W.heap.size → W'.heap[k]? = W.heap[k]?) → Nst base W' ns vals B
  | [], vals, B, h, _ => h
  | e :: r, vals, B, h, hk => by
    obtain ⟨lv, vs, A, B', rest, h1, h2, h3, h4, h5, h6, h7⟩ := h
    refine ⟨lv, vs, A, B', rest, h1, ownsRow_of_block h2 (fun k _ e => hk k (h7 k e).1 (ownsRow_lt h2 k e).2), h3.turn (fun k hA hl => ⟨hA, hk k (h5 k hA).1 hl⟩), h4.turn (fun k hB hl => hk k (h6 k hB) hl), h5, h6, h7⟩
theorem Nst.gr {base : Nat} {ns : List Ne} {vals : List Value} {B : Nat → Prop} (h : Nst base W ns vals B) (g : Gr S W W') (hs : ∀ k, B k → ¬ S k) : Nst base W' ns vals B := h.turn (fun k hB hl => g.block k hl (hs k hB))
theorem Nst.len {base : Nat} : ∀ {ns : List Ne} {vals : List Value} {B : Nat → Prop}, Nst base W ns vals B → vals.length = ns.length * 10
  | [], vals, B, h => by cases h; rfl
  | e :: r, vals, B, h => by
    obtain ⟨lv, vs, A, B', rest, h1, h2, h3, h4, h5, h6, h7⟩ := h
    subst h1
    have := Nst.len h4
    simp only [List.length_append, List.length_cons, List.length_nil]
    omega
theorem Nst.push {base : Nat} {ns : List Ne} {vals : List Value} {B : Nat → Prop} (h : Nst base W ns vals B) (k : Int) (w : Nat) : Nst base W (⟨k, w, []⟩ :: ns) (vals ++ nestC k nl w) B :=
  ⟨nl, [], fun _ => False, B, vals, rfl, World.ownsRow_nil _ _ _ _, rfl, h, fun _ e => e.elim, fun _ e => e, fun _ e => by cases e⟩
/-- The innermost nest as a term. -/
theorem nest_rep {A : Nat → Prop} {base : Nat} {e : Ne} {lv : Value} {vs : List Value} (h2 : W.ownsRow base 31 9 lv e.ts.length (vs.flatMap cellsOf)) (h3 : Reps A W e.ts vs) :
    Rep (fun k => A k ∨ lv.ownBlock = some k) W (.mk { k := e.k } [] e.ts) (tv e.k 0 0 0 e0 0 0 0 nl lv) := by
  refine ⟨nl, lv, vs, rfl, .inl ⟨rfl, _, _, rfl⟩, ?_, h3.turn (fun k hA _ => ⟨.inl hA, rfl⟩)⟩
  rcases h2.2 with ⟨rfl, h0⟩ | ⟨g, cap, cur, rfl, hg, a2, a3, _, _, a6⟩
  · exact .inl ⟨h0, _, _, rfl⟩
  · exact .inr ⟨g, cap, cur, rfl, .inr rfl, a2, a3, a6⟩
theorem Nst.pop {base : Nat} {e : Ne} {r : List Ne} {vals : List Value} {B : Nat → Prop} (h : Nst base W (e :: r) vals B) :
    ∃ lv rest C B', vals = rest ++ nestC e.k lv e.w ∧ (∃ a c, lv = .slice a e.ts.length c) ∧ Rep C W (.mk { k := e.k } [] e.ts) (tv e.k 0 0 0 e0 0 0 0 nl lv) ∧ Nst base W r rest B' ∧ (∀ k, C k → B k ∧ ¬ B' k) ∧ (∀ k, B' k → B k) := by
  obtain ⟨lv, vs, A, B', rest, h1, h2, h3, h4, h5, h6, h7⟩ := h
  exact ⟨lv, rest, _, B', h1, ownsRow_sv h2, nest_rep h2 h3, h4, fun k hk => hk.elim (h5 k) (fun e => ⟨(h7 k e).1, (h7 k e).2.2⟩), h6⟩
/-- One more element of the innermost nest. -/
theorem Nst.grow {base : Nat} {e : Ne} {r : List Ne} {rest : List Value} {lv lv' v : Value} {vs : List Value} {A B B' C : Nat → Prop} {T : Tm} (h3 : Reps A W e.ts vs) (h4 : Nst base W r rest B') (h5 : ∀ k, A k → B k ∧ ¬ B' k) (h6 : ∀ k, B' k → B k) (h7 : ∀ k, lv.ownBlock = some k → B k ∧ ¬ A k ∧ ¬ B' k)
    (hT : Rep C W T v) (hC : ∀ k, C k → ¬ B k ∧ k < W.heap.size) (hB : ∀ k, B k → k < W.heap.size)
    (hrow : W'.ownsRow base 31 9 lv' (e.ts.length + 1) (vs.flatMap cellsOf ++ cellsOf v)) (hloc : lv'.ownBlock = lv.ownBlock ∨ ∀ k, lv'.ownBlock = some k → W.heap.size ≤ k)
    (hkeep : ∀ k, k < W.heap.size → B k ∨ C k → lv.ownBlock ≠ some k → W'.heap[k]? = W.heap[k]?) :
    Nst base W' (⟨e.k, e.w, e.ts ++ [T]⟩ :: r) (rest ++ nestC e.k lv' e.w) (fun k => B k ∨ C k ∨ lv'.ownBlock = some k) := by
  have hown : ∀ k, lv'.ownBlock = some k → ¬ A k ∧ ¬ C k ∧ ¬ B' k := by
    intro k hk
    rcases hloc with e | hn
    · rw [e] at hk
      have := h7 k hk
      exact ⟨this.2.1, fun hc => (hC k hc).1 this.1, this.2.2⟩
    · have := hn k hk
      exact ⟨fun hA => by have := hB k (h5 k hA).1; omega, fun hc => by have := (hC k hc).2; omega, fun hb => by have := hB k (h6 k hb); omega⟩
  refine ⟨lv', vs ++ [v], fun k => A k ∨ C k, B', rest, rfl, ?_, ?_, ?_, ?_, fun k hk => .inl (h6 k hk), fun k hk => ⟨.inr (.inr hk), ?_, (hown k hk).2.2⟩⟩
  · simpa using hrow
  · refine Reps.snoc (h3.turn ?_) (hT.turn ?_)
    · exact fun k hA hl => ⟨.inl hA, hkeep k hl (.inl (h5 k hA).1) (fun e => (h7 k e).2.1 hA)⟩
    · exact fun k hc hl => ⟨.inr hc, hkeep k hl (.inr hc) (fun e => (hC k hc).1 (h7 k e).1)⟩
  · exact h4.turn (fun k hb hl => hkeep k hl (.inl (h6 k hb)) (fun e => (h7 k e).2.2 hb))
  · rintro k (hA | hc)
    · exact ⟨.inl (h5 k hA).1, (h5 k hA).2⟩
    · exact ⟨.inr (.inl hc), fun hb => (hC k hc).1 (h6 k hb)⟩
  · rintro (hA | hc)
    · exact (hown k hk).1 hA
    · exact (hown k hk).2.1 hc
/-- The reader at work: its bytes, its table, its nests; X: the block of the term at hand. -/
structure Opn (Z F : Nat → Prop) (base : Nat) (W : World) (b n tb : Nat) (m : List Int) (l : List ByteArray) (ov : Value) (ns : List Ne) (B : Nat → Prop) : Prop where
  rt : Rt Z F W b n tb m l
  nst : ∃ vals, Nst base W ns vals B ∧ W.ownsRow base 78 10 ov ns.length vals
  own : ∀ k, ov.ownBlock = some k → ¬ B k ∧ ¬ F k
  bF : ∀ k, B k → ¬ F k ∧ base ≤ k ∧ k < W.heap.size
  bb : b < base
  zb : ∀ k, Z k → k < base
  fl : ∀ k, F k → k < W.heap.size
/-- A call of the reader's own has gone by. -/
theorem Opn.sr {base b n n' tb : Nat} {m m' : List Int} {l : List ByteArray} {ov : Value} {ns : List Ne} {B : Nat → Prop} (h : Opn Z F base W b n tb m l ov ns B) (k : Sr Z W b W' m' n' tb) : Opn Z F base W' b n' tb m' l ov ns B := by
  obtain ⟨vals, h1, h2⟩ := h.nst
  have hbb := h.bb
  exact ⟨h.rt.sr k, ⟨vals, h1.gr k.2 (fun i hi e => by have := (h.bF i hi).2.1; omega), ownsRow_gr h2 k.2 (fun i hi e => by omega)⟩, h.own, fun i hi => ⟨(h.bF i hi).1, (h.bF i hi).2.1, Nat.lt_of_lt_of_le (h.bF i hi).2.2 k.2.size⟩, h.bb, h.zb, fun i hi => Nat.lt_of_lt_of_le (h.fl i hi) k.2.size⟩
theorem Opn.nm {base b n n' tb : Nat} {m m' : List Int} {l l' : List ByteArray} {ov : Value} {ns : List Ne} {B : Nat → Prop} (h : Opn Z F base W b n tb m l ov ns B) (k : Nm Z F W b n' tb W' m' l') : ∃ F', Opn Z F' base W' b n' tb m' l' ov ns B ∧ ∀ k, F' k → F k ∨ W.heap.size ≤ k := by
  obtain ⟨vals, h1, h2⟩ := h.nst
  obtain ⟨F1, hF1, hF1'⟩ := k.at_
  obtain ⟨F', hE⟩ : ∃ F' : Nat → Prop, F' = fun i => F1 i ∧ i < W'.heap.size := ⟨_, rfl⟩
  have hF' : ∀ i, F' i → F i ∨ W.heap.size ≤ i := fun i hi => by rw [hE] at hi; exact hF1' i hi.1
  have hF : Rt Z F' W' b n' tb m' l' := by
    obtain ⟨mp, sv, ht, hf⟩ := hF1.tab
    exact ⟨hF1.re, ⟨mp, sv, ht, fun i hi => by rw [hE]; exact ⟨hf i hi, ht.lt i hi⟩⟩, fun e => by rw [hE] at e; exact hF1.nb e.1, fun i hi e => by rw [hE] at e; exact hF1.nz i hi e.1, hF1.zl⟩
  have hfl : ∀ i, F' i → i < W'.heap.size := fun i hi => by rw [hE] at hi; exact hi.2
  have hbb := h.bb
  have hS : ∀ i, B i → ¬ (i = b ∨ F i) := fun i hi e => e.elim (fun e => by have := (h.bF i hi).2.1; omega) (h.bF i hi).1
  refine ⟨F', ⟨hF, ⟨vals, h1.gr k.gr hS, ?_⟩, fun i hi => ⟨(h.own i hi).1, fun e => (hF' i e).elim (h.own i hi).2 (fun e => by have := (ownsRow_lt h2 i hi).2; omega)⟩, fun i hi => ⟨fun e => (hF' i e).elim (h.bF i hi).1 (fun e => by have := (h.bF i hi).2.2; omega), (h.bF i hi).2.1, Nat.lt_of_lt_of_le (h.bF i hi).2.2 k.gr.size⟩, h.bb, h.zb, hfl⟩, hF'⟩
  exact ownsRow_of_block h2 (fun i hi e => k.gr.block i (ownsRow_lt h2 i e).2 (fun e' => e'.elim (fun e' => by omega) (h.own i e).2))
end Go.Proofs.YtmohehfkbhllpaaGreat


namespace Go.Proofs.YtmohehfkbhllpaaGreat
open Go.RowKit Go.Maps
variable {S S' Z F F0 : Nat → Prop} {W W0 W1 W' : World}

/-- As Q; by a goto to label l: J at l, at something less than n. -/
def jumpsI (J : Nat → Nat → Act → World → Prop) (n : Nat) (Q : Exit → Act → World → Prop) : Exit → Act → World → Prop
  | .goto l, a, w => ∃ k, k < n ∧ J l k a w
  | e, a, w => Q e a w
theorem wp_scope_idx {P : Program} {c : Code} {a : Act} {w : World} {Q : Exit → Act → World → Prop} (rest : Nat → Code) (J : Nat → Nat → Act → World → Prop) (n0 : Nat) (hf : ∀ l k a w, J l k a w → findLabel c l = some (rest l))
    (first : c.wp P (jumpsI J n0 Q) a w) (pass : ∀ l k a w, J l k a w → (rest l).wp P (jumpsI J k Q) a w) : (Code.scope c).wp P Q a w := by
  intro b k cs
  have hg : ∀ l i a w, J l i a w → gotoIn l (.inScope c :: k) = some (.code (rest l) :: .inScope c :: k) := fun l i a w hJ => by simp [gotoIn, hf l i a w hJ]
  have key : ∀ n l a w, J l n a w → ∃ e a' w', Q e a' w' ∧ Arrives P (lone (b.at a (.code (rest l) :: .inScope c :: k)) cs w) b k cs e a' w' := by
    intro n
    induction n using Nat.strongRecOn with
    | _ n ih =>
      intro l a w hJ
      obtain ⟨e, a₁, w₁, hq, harr⟩ := pass l n a w hJ b (.inScope c :: k) cs
      cases e with
      | normal => exact ⟨.normal, a₁, w₁, hq, Steps.trans harr (.one step_inScope)⟩
      | exit id => exact ⟨.exit id, a₁, w₁, hq, fun k' hk => harr k' (by simp [exitTo, hk])⟩
      | goto l' =>
        obtain ⟨i, hlt, hJ'⟩ := hq
        obtain ⟨e₂, a₂, w₂, hq₂, harr₂⟩ := ih i hlt l' a₁ w₁ hJ'
        exact ⟨e₂, a₂, w₂, hq₂, .of_steps (harr _ (hg l' i a₁ w₁ hJ')) harr₂⟩
      | ret => exact ⟨_, a₁, w₁, hq, harr⟩
      | panic ch => exact ⟨_, a₁, w₁, hq, harr⟩
      | outgrown => exact ⟨_, a₁, w₁, hq, harr⟩
  obtain ⟨e, a₁, w₁, hq, harr⟩ := first b (.inScope c :: k) cs
  cases e with
  | normal => exact ⟨.normal, a₁, w₁, hq, .head step_scope (Steps.trans harr (.one step_inScope))⟩
  | exit id => exact ⟨.exit id, a₁, w₁, hq, fun k' hk => .head step_scope (harr k' (by simp [exitTo, hk]))⟩
  | goto l' =>
    obtain ⟨i, hlt, hJ'⟩ := hq
    obtain ⟨e₂, a₂, w₂, hq₂, harr₂⟩ := key i l' a₁ w₁ hJ'
    exact ⟨e₂, a₂, w₂, hq₂, .of_steps (.head step_scope (harr _ (hg l' i a₁ w₁ hJ'))) harr₂⟩
  | ret => exact ⟨_, a₁, w₁, hq, .of_steps (.one step_scope) harr⟩
  | panic ch => exact ⟨_, a₁, w₁, hq, .of_steps (.one step_scope) harr⟩
  | outgrown => exact ⟨_, a₁, w₁, hq, .of_steps (.one step_scope) harr⟩

/-- The frame of whole: the reader, the two terms' blocks, the open nests. -/
structure Fr (b R X : Nat) (ov : Value) (a : Act) : Prop where
  defers : a.defers = []
  size : a.tmps.size = 113
  s0 : a.tmps[0]? = some (pt b)
  s2 : a.tmps[2]? = some (pt R)
  s3 : a.tmps[3]? = some (pt X)
  s4 : a.tmps[4]? = some ov
set_option maxRecDepth 20000 in
theorem Fr.lit {b R X : Nat} {ov : Value} {a : Act} (h : Fr b R X ov a) : ∃ x : Nat → Value, a = { tmps := #[pt b, x 1, pt R, pt X, ov, x 5, x 6, x 7, x 8, x 9, x 10, x 11, x 12, x 13, x 14, x 15, x 16, x 17, x 18, x 19, x 20, x 21, x 22, x 23, x 24, x 25, x 26, x 27, x 28, x 29, x 30, x 31, x 32, x 33, x 34, x 35, x 36, x 37, x 38, x 39, x 40, x 41, x 42, x 43, x 44, x 45, x 46, x 47, x 48, x 49, x 50, x 51, x 52, x 53, x 54, x 55, x 56, x 57, x 58, x 59, x 60, x 61, x 62, x 63, x 64, x 65, x 66, x 67, x 68, x 69, x 70, x 71, x 72, x 73, x 74, x 75, x 76, x 77, x 78, x 79, x 80, x 81, x 82, x 83, x 84, x 85, x 86, x 87, x 88, x 89, x 90, x 91, x 92, x 93, x 94, x 95, x 96, x 97, x 98, x 99, x 100, x 101, x 102, x 103, x 104, x 105, x 106, x 107, x 108, x 109, x 110, x 111, x 112], defers := [] } := by
  obtain ⟨h1, h2, h3, h4, h5, h6⟩ := h
  cases a with
  | mk t d =>
    simp only at h1 h2 h3 h4 h5 h6
    subst h1
    obtain ⟨x, hx⟩ : ∃ x : Nat → Value, x = fun i => (t[i]?).getD (.bool false) := ⟨_, rfl⟩
    have e : t = ((List.range 113).map x).toArray := by
      apply Array.ext_getElem?
      intro i
      by_cases hi : i < 113
      · have : i < t.size := by omega
        simp [hi, hx, this]
      · have : t.size ≤ i := by omega
        simp [hi, this]
    have e2 : ((List.range 113).map x).toArray = #[x 0, x 1, x 2, x 3, x 4, x 5, x 6, x 7, x 8, x 9, x 10, x 11, x 12, x 13, x 14, x 15, x 16, x 17, x 18, x 19, x 20, x 21, x 22, x 23, x 24, x 25, x 26, x 27, x 28, x 29, x 30, x 31, x 32, x 33, x 34, x 35, x 36, x 37, x 38, x 39, x 40, x 41, x 42, x 43, x 44, x 45, x 46, x 47, x 48, x 49, x 50, x 51, x 52, x 53, x 54, x 55, x 56, x 57, x 58, x 59, x 60, x 61, x 62, x 63, x 64, x 65, x 66, x 67, x 68, x 69, x 70, x 71, x 72, x 73, x 74, x 75, x 76, x 77, x 78, x 79, x 80, x 81, x 82, x 83, x 84, x 85, x 86, x 87, x 88, x 89, x 90, x 91, x 92, x 93, x 94, x 95, x 96, x 97, x 98, x 99, x 100, x 101, x 102, x 103, x 104, x 105, x 106, x 107, x 108, x 109, x 110, x 111, x 112] := rfl
    have x0 : x 0 = pt b := by rw [hx]; simp only [h3]; rfl
    have x2 : x 2 = pt R := by rw [hx]; simp only [h4]; rfl
    have x3 : x 3 = pt X := by rw [hx]; simp only [h5]; rfl
    have x4 : x 4 = ov := by rw [hx]; simp only [h6]; rfl
    rw [x0, x2, x3, x4] at e2
    exact ⟨x, by rw [e, e2]⟩
/-- How whole ends. -/
def EndWh (F0 : Nat → Prop) (W0 : World) (b : Nat) (e : Ending) (w' : World) : Except Int Tm → Prop
  | .ok T => ∃ v, e = .returned v ∧ Rep (fun k => W0.heap.size ≤ k) w' T v ∧ Gr (fun k => k = b ∨ F0 k) W0 w'
  | .error c => e = thr c ∧ Gr (fun k => k = b ∨ F0 k) W0 w'
/-- What holds at every label. -/
structure Jc (Z F0 : Nat → Prop) (W0 : World) (b tb R X : Nat) (F : Nat → Prop) (n : Nat) (m : List Int) (l : List ByteArray) (ov : Value) (ns : List Ne) (B : Nat → Prop) (a : Act) (w : World) : Prop where
  fr : Fr b R X ov a
  op : Opn Z F (W0.heap.size + 2) w b n tb m l ov ns B
  rb : Bx w R 0 0 0 0 e0 0 0 0 nl nl
  fx : ∀ k, F k → F0 k ∨ W0.heap.size + 2 ≤ k
  f0 : ∀ k, F0 k → k < W0.heap.size
  gr : Gr (fun k => k = b ∨ F0 k) W0 w
  hR : R = W0.heap.size
  hX : X = W0.heap.size + 1
  nl : ns.length ≤ 24
  n4 : n ≤ 4096
  b0 : b < W0.heap.size
  z0 : ∀ k, Z k → k < W0.heap.size
  xb : ∃ k n x y s a c d b l, Bx w X k n x y s a c d b l
/-- The term at hand. -/
def Hand (base : Nat) (F B : Nat → Prop) (ov : Value) (w : World) (X : Nat) (T : Tm) : Prop := ∃ (C : Nat → Prop) (k n : Int) (x y : Nat) (s : ByteArray) (a c d : Int) (a1 : Option Addr) (n1 c1 : Nat) (a2 : Option Addr) (n2 c2 : Nat), Bx w X k n x y s a c d (.slice a1 n1 c1) (.slice a2 n2 c2) ∧ Rep C w T (tv k n x y s a c d (.slice a1 n1 c1) (.slice a2 n2 c2)) ∧ ∀ k, C k → base ≤ k ∧ k < w.heap.size ∧ ¬ B k ∧ ¬ F k ∧ ov.ownBlock ≠ some k
set_option maxRecDepth 20000 in
set_option maxHeartbeats 1600000 in
theorem end_w (Y : Code) (hY : Lab 4 (.seq .skip Y)) (Q : Exit → Act → World → Prop) (r : Except Int Tm) (b tb R X n : Nat) (m : List Int) (l : List ByteArray) (ov : Value) (B : Nat → Prop) (T : Tm)
    (hret : ∀ a w, bodyPost Tryz.prog Tryz.f13 (fun e w' => EndWh F0 W0 b e w' r) .ret a w → Q .ret a w) (hpan : ∀ ch a w, bodyPost Tryz.prog Tryz.f13 (fun e w' => EndWh F0 W0 b e w' r) (.panic ch) a w → Q (.panic ch) a w)
    (a : Act) (w : World) (hJ : Jc Z F0 W0 b tb R X F n m l ov [] B a w) (hT : Hand (W0.heap.size + 2) F B ov w X T) (hr : Hid (r = fin7 [] T m n l)) : Y.wp Tryz.prog Q a w := by
  unfold Lab at hY
  simp only [Tryz.f13, scopeOf, findLabel, Option.getD] at hY
  cases hY
  obtain ⟨x, rfl⟩ := hJ.fr.lit
  obtain ⟨lv, hB, hqq, hz⟩ := hJ.op.rt.re
  obtain ⟨c0, c1, c2, f0, f1⟩ := three46 hB
  obtain ⟨qa, qc, rfl, -⟩ := hqq
  obtain ⟨C, tk, tn, tx, ty, ts, ta, tc, td, a1, n1, c1, a2, n2, c2, hx, hrep, hC⟩ := hT
  have hxf := hx.facts
  have hRb := hJ.rb
  have hRf := hRb.facts
  have z0 := hRb.froz 0 (by decide)
  have z1 := hRb.froz 1 (by decide)
  have z2 := hRb.froz 2 (by decide)
  have z3 := hRb.froz 3 (by decide)
  have z4 := hRb.froz 4 (by decide)
  have z5 := hRb.froz 5 (by decide)
  have z6 := hRb.froz 6 (by decide)
  have z7 := hRb.froz 7 (by decide)
  have z8 := hRb.froz 8 (by decide)
  have hg := Lib.hid hJ.gr
  have hR := Lib.hid hJ.hR
  have hC' := Lib.hid hC
  clear hJ hC
  cases m with
  | nil =>
    have e : r = .ok T := by rw [hr.out]; simp [fin7]
    subst e
    obtain ⟨s9, g9⟩ := hRb.set9 tk tn tx ty ts ta tc td (.slice a1 n1 c1) (.slice a2 n2 c2)
    have s9' := Lib.hid s9
    have g9' := Lib.hid g9
    clear s9 g9
    go_wp2_with fail
    refine hret _ _ (bodyPost_ret (v := tv tk tn tx ty ts ta tc td (.slice a1 n1 c1) (.slice a2 n2 c2)) (by simp [results, Tryz.results13, go_sem, s9'.out.facts]) rfl ⟨_, rfl, ?_, ?_⟩)
    · exact hrep.turn (fun k hk hl => ⟨by have := (hC'.out k hk).1; omega, g9'.out.block k hl (fun e => by have := (hC'.out k hk).1; have := hR.out; omega)⟩)
    · exact hg.out.trans' g9'.out (fun i hi e => by have := hR.out; omega)
  | cons y m =>
    have e : r = .error 74 := by rw [hr.out]; simp [fin7]
    subst e
    go_wp2_with fail
    exact ⟨rfl, rfl, hg.out⟩
end Go.Proofs.YtmohehfkbhllpaaGreat

