/-
  What has been asked for stays as it was while names are put in.
-/
import Derived.Test.YtipdniiamaaolaaQ
namespace Go.Proofs.Ytipdniiamaaolaa
open Go.RowKit Go.Maps Go.WideMaps Go.Shelf

/-- A block that no table is made of. -/
def Other : Obj → Prop
  | .cells _ t _ => t ≠ 54 ∧ t ≠ 9
  | .map _ _ => False
  | _ => True
theorem Tab.other {X : World} {b : Nat} {m : Option Nat} {sv : Value} {l : List ByteArray} (h : Tab X b m sv l) {j : Nat} {o : Obj} (ho : X.heap[j]? = some o) (h2 : Other o) : ¬ Fp b m sv j := by
  rintro (e | e | e)
  · subst e; rw [h.blk] at ho; cases ho; exact h2.1 rfl
  · rcases h.map with ⟨e0, _⟩ | ⟨mb, d, e0, ⟨es, c, hm, _⟩, _⟩
    · rw [e0] at e; cases e
    · rw [e0] at e; cases e; rw [hm] at ho; cases ho; exact h2
  · rcases h.row.2 with ⟨rfl, _⟩ | ⟨g, cap, cur, rfl, _, h3, _⟩
    · cases e
    · cases e; rw [h3] at ho; cases ho; exact h2.2 rfl
/-- All such blocks lie as they lay. -/
def Kept (X X' : World) : Prop := ∀ (j : Nat) (o : Obj), X.heap[j]? = some o → Other o → X'.heap[j]? = some o
theorem Kept.of_gr {X X' : World} (g : Gr (fun _ => False) X X') : Kept X X' := fun j _ h _ => (g.block j (Array.getElem?_eq_some_iff.1 h).1 (fun e => e)).trans h
theorem Kept.of_put {X X' : World} {b : Nat} {m : Option Nat} {sv : Value} {l : List ByteArray} (h : Tab X b m sv l) (g : Gr (Fp b m sv) X X') : Kept X X' :=
  fun j _ ho h2 => (g.block j (Array.getElem?_eq_some_iff.1 ho).1 (h.other ho h2)).trans ho
theorem Kept.refl (X : World) : Kept X X := fun _ _ h _ => h
theorem Kept.trans {X Y Z : World} (h : Kept X Y) (k : Kept Y Z) : Kept X Z := fun j o ho h2 => k j o (h j o ho h2) h2
theorem duo_putK {W X : World} {b : Nat} {l l2 : List ByteArray} {lv : Value} (s : ByteArray) (h : Duo W X b l lv l2) :
    Calls Try.prog 14 #[pt b, .string s] X fun e X' => ∃ v, e = .returned v ∧ Duo W X' b (putL l s) lv l2 ∧ Kept X X' := by
  obtain ⟨m, sv, ht, hf, hg, hs, hd⟩ := h
  refine (put_c X b m sv l s ht).mono ?_
  rintro e X' ⟨he, m', sv', ht', hg', hf', _⟩
  have hsz := hg.size
  have hsz' := hg'.size
  refine ⟨_, he, ⟨m', sv', ht', fun k hk => ?_, hg.trans' hg' (fun i hi e => by have := hf i e; omega), hs.gr hg' (fun k hk => (hd k hk).2), fun k hk => ?_⟩, Kept.of_put ht hg'⟩
  · rcases hf' k hk with e | e
    · exact hf k e
    · omega
  · have h1 := hd k hk
    exact ⟨by omega, fun e => by rcases hf' k e with e2 | e2
                                 · exact h1.2 e2
                                 · omega⟩

theorem duo_refPutK {W X : World} {b : Nat} {l l2 : List ByteArray} {lv : Value} (s : ByteArray) (h : Duo W X b l lv l2) :
    Calls Try.prog 13 #[lv, .string s] X fun e X' => ∃ lv', e = .returned (.tuple #[lv', .int .i64 (putN l2 s), .int .i64 (putE l2 s)]) ∧ Duo W X' b l lv' (putL l2 s) ∧ Kept X X' ∧ ∀ k, lv'.ownBlock = some k → lv.ownBlock = some k ∨ X.heap.size ≤ k := by
  obtain ⟨m, sv, ht, hf, hg, hs, hd⟩ := h
  refine (refPut_c X lv l2 s hs).mono ?_
  rintro e X' ⟨lv', he, hs', hg', hloc⟩
  refine ⟨lv', he, ⟨m, sv, ht.gr hg' (fun _ _ e => e), hf, hg.trans hg', hs', fun k hk => ?_⟩, Kept.of_gr hg', fun k hk => ?_⟩
  · rcases hloc with rfl | hl
    · exact ⟨Nat.lt_of_lt_of_le (hd k hk).1 hg'.size, (hd k hk).2⟩
    · exact ⟨(hl k hk).2, fun e => by have := ht.lt k e; have := (hl k hk).1; omega⟩
  · rcases hloc with rfl | hl
    · exact .inl hk
    · exact .inr (hl k hk).1
theorem Duo.set {W X : World} {b : Nat} {l l2 : List ByteArray} {lv : Value} (h : Duo W X b l lv l2) (p : Addr) (v : Value) {o : Obj} (ho : X.heap[p.block]? = some o) (h2 : Other o) (hW : W.heap.size ≤ p.block) (hL : ∀ k, lv.ownBlock = some k → k ≠ p.block) : Duo W (X.setCell p v) b l lv l2 := by
  obtain ⟨m, sv, ht, hf, hg, hs, hd⟩ := h
  have g : Gr (fun i => i = p.block) X (X.setCell p v) := Gr.set X p v rfl
  exact ⟨m, sv, ht.gr g (fun k hk e => ht.other ho h2 (e ▸ hk)), hf, hg.trans' g (fun i hi e => by omega), hs.gr g (fun k hk => hL k hk), fun k hk => ⟨by simpa using (hd k hk).1, (hd k hk).2⟩⟩

/-- How a slice that All has told stands to the table's own list. -/
def SR (b : Nat) (m : Option Nat) (svc : Value) (lc : List ByteArray) (sv : Value) (l : List ByteArray) : Prop :=
  l = [] ∨ (sv.ownBlock = svc.ownBlock ∧ l <+: lc) ∨ ∀ k, sv.ownBlock = some k → ¬ Fp b m svc k
theorem at_prefix {l lc : List ByteArray} (h : l <+: lc) {k : Nat} (hk : k < l.length) : at_ lc k = at_ l k := by
  obtain ⟨r, rfl⟩ := h
  simp [at_, List.getElem?_append_left hk]
theorem putL_prefix (l : List ByteArray) (s : ByteArray) : l <+: putL l s := by
  unfold putL
  split
  · split
    · exact List.prefix_refl _
    · split
      · exact List.prefix_refl _
      · exact List.prefix_append _ _
  · exact List.prefix_refl _
theorem snap_step {X X' : World} {b : Nat} {m m' : Option Nat} {svc svc' sv : Value} {lc lc' l : List ByteArray} (ht : Tab X b m svc lc) (hs : Snap X sv l) (hr : SR b m svc lc sv l) (ht' : Tab X' b m' svc' lc')
    (hg : Gr (Fp b m svc) X X') (hf : ∀ k, Fp b m' svc' k → Fp b m svc k ∨ X.heap.size ≤ k) (hk : ∀ k, svc.ownBlock = some k → svc'.ownBlock = some k ∨ X'.heap[k]? = X.heap[k]?) (hp : lc <+: lc') :
    Snap X' sv l ∧ SR b m' svc' lc' sv l := by
  rcases hs.2 with ⟨rfl, a, cap, rfl⟩ | ⟨g, cap, rfl, hc⟩
  · exact ⟨⟨hs.1, .inl ⟨rfl, a, cap, rfl⟩⟩, .inl rfl⟩
  · by_cases h0 : l = []
    · subst h0
      exact ⟨⟨hs.1, .inl ⟨rfl, _, _, rfl⟩⟩, .inl rfl⟩
    · have hl0 : 0 < l.length := List.length_pos_iff.2 h0
      have hgX : g < X.heap.size := by
        have h1 := hc 0 hl0
        simp only [World.cell?] at h1
        rcases hh : X.heap[g]? with _ | o
        · rw [hh] at h1; cases h1
        · exact (Array.getElem?_eq_some_iff.1 hh).1
      rcases hr with e | ⟨e, hpre⟩ | hn
      · exact absurd e h0
      · have hsg : svc.ownBlock = some g := by rw [← e]; rfl
        by_cases hs' : svc'.ownBlock = some g
        · refine ⟨⟨hs.1, .inr ⟨g, cap, rfl, fun k hkl0 => ?_⟩⟩, .inr (.inl ⟨by rw [hs']; rfl, hpre.trans hp⟩)⟩
          have hpl := hpre.trans hp
          have hkl : k < lc'.length := Nat.lt_of_lt_of_le hkl0 hpl.length_le
          rcases ht'.row.2 with ⟨rfl, _⟩ | ⟨g', cap', cur', rfl, _⟩
          · cases hs'
          · cases hs'
            have := ht'.at k hkl
            rw [this]
            exact congrArg (fun z => some (Value.string z)) (at_prefix hpl hkl0)
        · have hsame : X'.heap[g]? = X.heap[g]? := (hk g hsg).resolve_left hs'
          refine ⟨⟨hs.1, .inr ⟨g, cap, rfl, fun k hk => ?_⟩⟩, .inr (.inr (fun k hk hF => ?_))⟩
          · rw [World.cell?_of_block (w' := X') (w := X) (a := ⟨g, k, none⟩) hsame]; exact hc k hk
          · obtain rfl : g = k := by simpa [Value.ownBlock] using hk
            rcases hF with e1 | e1 | e1
            · exact ht.ne.2.1 (by rw [hsg, e1])
            · rcases ht'.map with ⟨e0, _⟩ | ⟨mb, d, e0, ⟨es, cc, hm, _⟩, _⟩
              · rw [e0] at e1; cases e1
              · rw [e0] at e1; cases e1
                rw [hsame] at hm
                have h1 := hc 0 hl0
                simp [World.cell?, hm] at h1
            · exact hs' e1
      · refine ⟨hs.gr hg (fun k hk => hn k hk), .inr (.inr (fun k hk hF => ?_))⟩
        obtain rfl : g = k := by simpa [Value.ownBlock] using hk
        rcases hf g hF with e1 | e1
        · exact hn g rfl e1
        · omega

/-- Two tables, a list, and what the first has told. -/
def Quad (W X : World) (b : Nat) (lc : List ByteArray) (c : Nat) (l : List ByteArray) (lv sv : Value) : Prop :=
  ∃ m svc m' sv', Tab X b m svc lc ∧ Tab X c m' sv' l ∧ (∀ k, Fp b m svc k → W.heap.size ≤ k ∧ ¬ Fp c m' sv' k) ∧ (∀ k, Fp c m' sv' k → W.heap.size ≤ k) ∧ Gr (fun _ => False) W X ∧ Snap X lv l ∧
    (∀ k, lv.ownBlock = some k → k < X.heap.size ∧ ¬ Fp b m svc k ∧ ¬ Fp c m' sv' k) ∧ Snap X sv l ∧ SR b m svc lc sv l
theorem quad_put {W X : World} {b c : Nat} {lc l : List ByteArray} {lv sv : Value} (s : ByteArray) (h : Quad W X b lc c l lv sv) :
    Calls Try.prog 14 #[pt b, .string s] X fun e X' => ∃ v, e = .returned v ∧ Quad W X' b (putL lc s) c l lv sv ∧ Kept X X' := by
  obtain ⟨m, svc, m', sv', ht, ht', hf, hf', hg, hs, hd, hsn, hsr⟩ := h
  refine (put_c X b m svc lc s ht).mono ?_
  rintro e X' ⟨he, m2, sv2, ht2, hg2, hf2, hk2⟩
  have hsz := hg.size
  have hsz' := hg2.size
  obtain ⟨hsn', hsr'⟩ := snap_step ht hsn hsr ht2 hg2 hf2 hk2 (putL_prefix lc s)
  refine ⟨_, he, ⟨m2, sv2, m', sv', ht2, ht'.gr hg2 (fun k hk e => (hf k e).2 hk), fun k hk => ?_, hf', hg.trans' hg2 (fun i hi e => by have := (hf i e).1; omega), hs.gr hg2 (fun k hk => (hd k hk).2.1), fun k hk => ?_, hsn', hsr'⟩, Kept.of_put ht hg2⟩
  · rcases hf2 k hk with e | e
    · exact hf k e
    · exact ⟨by omega, fun e2 => by have := ht'.lt k e2; omega⟩
  · have h1 := hd k hk
    exact ⟨by omega, fun e => by rcases hf2 k e with e2 | e2
                                 · exact h1.2.1 e2
                                 · omega, h1.2.2⟩
theorem Quad.gr {W X X' : World} {b c : Nat} {lc l : List ByteArray} {lv sv : Value} {S : Nat → Prop} (h : Quad W X b lc c l lv sv) (g : Gr S X X') (hS : ∀ (j : Nat) (o : Obj), X.heap[j]? = some o → S j → Other o) (hW : ∀ j, S j → W.heap.size ≤ j)
    (hL : ∀ k, lv.ownBlock = some k → ¬ S k) (hV : ∀ k, sv.ownBlock = some k → ¬ S k) : Quad W X' b lc c l lv sv := by
  obtain ⟨m, svc, m', sv', ht, ht', hf, hf', hg, hs, hd, hsn, hsr⟩ := h
  have n1 : ∀ k, Fp b m svc k → ¬ S k := fun k hk e => by
    obtain ⟨o, ho⟩ : ∃ o, X.heap[k]? = some o := ⟨_, Array.getElem?_eq_getElem (ht.lt k hk)⟩
    exact ht.other ho (hS k o ho e) hk
  have n2 : ∀ k, Fp c m' sv' k → ¬ S k := fun k hk e => by
    obtain ⟨o, ho⟩ : ∃ o, X.heap[k]? = some o := ⟨_, Array.getElem?_eq_getElem (ht'.lt k hk)⟩
    exact ht'.other ho (hS k o ho e) hk
  exact ⟨m, svc, m', sv', ht.gr g n1, ht'.gr g n2, hf, hf', hg.trans' g (fun i hi e => by have := hW i e; omega), hs.gr g hL, fun k hk => ⟨Nat.lt_of_lt_of_le (hd k hk).1 g.size, (hd k hk).2⟩, hsn.gr g hV, hsr⟩
theorem Quad.gr0 {W X X' : World} {b c : Nat} {lc l : List ByteArray} {lv sv : Value} (h : Quad W X b lc c l lv sv) (g : Gr (fun _ => False) X X') : Quad W X' b lc c l lv sv :=
  h.gr g (fun _ _ _ e => e.elim) (fun _ e => e.elim) (fun _ _ e => e) (fun _ _ e => e)
theorem Quad.list {W X : World} {b c : Nat} {lc l : List ByteArray} {lv sv : Value} (h : Quad W X b lc c l lv sv) : Snap X lv l ∧ Snap X sv l ∧ Gr (fun _ => False) W X := by
  obtain ⟨m, svc, m', sv', ht, ht', hf, hf', hg, hs, hd, hsn, hsr⟩ := h
  exact ⟨hs, hsn, hg⟩
theorem quad_all {W X : World} {b c : Nat} {lc l : List ByteArray} {lv sv : Value} (st : Int) (h : Quad W X b lc c l lv sv) :
    Calls Try.prog 18 #[pt c, lv, .int .i64 st] X fun e X' => e = .returned (.bool true) ∧ Gr (fun _ => False) X X' := by
  obtain ⟨m, svc, m', sv', ht, ht', hf, hf', hg, hs, hd, hsn, hsr⟩ := h
  exact tells_c X c m' sv' lv l st ht' hs
theorem quad_len {W X : World} {b c : Nat} {lc l : List ByteArray} {lv sv : Value} (h : Quad W X b lc c l lv sv) :
    Calls Try.prog 20 #[pt c] X fun e X' => e = .returned (.int .i64 (l.length : Int)) ∧ X = X' := by
  obtain ⟨m, svc, m', sv', ht, ht', hf, hf', hg, hs, hd, hsn, hsr⟩ := h
  exact len_c X c m' sv' l ht'
theorem copy_quad {W X : World} {b : Nat} {m : Option Nat} {sv lv : Value} {l : List ByteArray} (ht : Tab X b m sv l) (hf : ∀ k, Fp b m sv k → W.heap.size ≤ k) (hg : Gr (fun _ => False) W X) (hs : Snap X lv l) (hd : ∀ k, lv.ownBlock = some k → k < X.heap.size ∧ ¬ Fp b m sv k) :
    Calls Try.prog 19 #[pt b] X fun e X' => ∃ c, e = .returned (pt c) ∧ Quad W X' b l c l lv sv ∧ Gr (fun _ => False) X X' := by
  refine (copy_c X b m sv l ht).mono ?_
  rintro e X' ⟨c, m', sv', he, ht', hg', hf'⟩
  have hsz := hg.size
  refine ⟨c, he, ⟨m, sv, m', sv', ht.gr hg' (fun _ _ e => e), ht', fun k hk => ⟨hf k hk, fun e => ?_⟩, fun k hk => ?_, hg.trans hg', hs.gr hg' (fun _ _ e => e), fun k hk => ?_, ht.snap.gr hg' (fun _ _ e => e), .inr (.inl ⟨rfl, List.prefix_refl _⟩)⟩, hg'⟩
  · have := hf' k e; have := ht.lt k hk; omega
  · have := hf' k hk; omega
  · have h1 := hd k hk
    exact ⟨Nat.lt_of_lt_of_le h1.1 hg'.size, h1.2, fun e => by have := hf' k e; omega⟩

/-- As Quad, where besides no table is made of the blocks E. -/
def QuadE (W X : World) (b : Nat) (lc : List ByteArray) (c : Nat) (l : List ByteArray) (lv sv : Value) (E : Nat → Prop) : Prop :=
  ∃ m svc m' sv', Tab X b m svc lc ∧ Tab X c m' sv' l ∧ (∀ k, Fp b m svc k → W.heap.size ≤ k ∧ ¬ Fp c m' sv' k) ∧ (∀ k, Fp c m' sv' k → W.heap.size ≤ k) ∧ Gr (fun _ => False) W X ∧ Snap X lv l ∧
    (∀ k, lv.ownBlock = some k → k < X.heap.size ∧ ¬ Fp b m svc k ∧ ¬ Fp c m' sv' k) ∧ Snap X sv l ∧ SR b m svc lc sv l ∧ (∀ k, Fp b m svc k → ¬ E k) ∧ (∀ k, Fp c m' sv' k → ¬ E k)
theorem QuadE.quad {W X : World} {b c : Nat} {lc l : List ByteArray} {lv sv : Value} {E : Nat → Prop} (h : QuadE W X b lc c l lv sv E) : Quad W X b lc c l lv sv := by
  obtain ⟨m, svc, m', sv', ht, ht', hf, hf', hg, hs, hd, hsn, hsr, _, _⟩ := h
  exact ⟨m, svc, m', sv', ht, ht', hf, hf', hg, hs, hd, hsn, hsr⟩
theorem Quad.past {W X : World} {b c : Nat} {lc l : List ByteArray} {lv sv : Value} {E : Nat → Prop} (h : Quad W X b lc c l lv sv) (hE : ∀ k, E k → X.heap.size ≤ k) : QuadE W X b lc c l lv sv E := by
  obtain ⟨m, svc, m', sv', ht, ht', hf, hf', hg, hs, hd, hsn, hsr⟩ := h
  exact ⟨m, svc, m', sv', ht, ht', hf, hf', hg, hs, hd, hsn, hsr, fun k hk e => by have := ht.lt k hk; have := hE k e; omega, fun k hk e => by have := ht'.lt k hk; have := hE k e; omega⟩
theorem quadE_put {W X : World} {b c : Nat} {lc l : List ByteArray} {lv sv : Value} {E : Nat → Prop} (s : ByteArray) (h : QuadE W X b lc c l lv sv E) (hE : ∀ k, E k → k < X.heap.size) :
    Calls Try.prog 14 #[pt b, .string s] X fun e X' => ∃ v, e = .returned v ∧ QuadE W X' b (putL lc s) c l lv sv E ∧ Kept X X' ∧ ∀ k, E k → X'.heap[k]? = X.heap[k]? := by
  obtain ⟨m, svc, m', sv', ht, ht', hf, hf', hg, hs, hd, hsn, hsr, e1, e2⟩ := h
  refine (put_c X b m svc lc s ht).mono ?_
  rintro e X' ⟨he, m2, sv2, ht2, hg2, hf2, hk2⟩
  have hsz := hg.size
  have hsz' := hg2.size
  obtain ⟨hsn', hsr'⟩ := snap_step ht hsn hsr ht2 hg2 hf2 hk2 (putL_prefix lc s)
  refine ⟨_, he, ⟨m2, sv2, m', sv', ht2, ht'.gr hg2 (fun k hk e => (hf k e).2 hk), fun k hk => ?_, hf', hg.trans' hg2 (fun i hi e => by have := (hf i e).1; omega), hs.gr hg2 (fun k hk => (hd k hk).2.1), fun k hk => ?_, hsn', hsr', fun k hk eE => ?_, e2⟩, Kept.of_put ht hg2, fun k eE => hg2.block k (hE k eE) (fun e => e1 k e eE)⟩
  · rcases hf2 k hk with e | e
    · exact hf k e
    · exact ⟨by omega, fun e2 => by have := ht'.lt k e2; omega⟩
  · have h1 := hd k hk
    exact ⟨by omega, fun e => by rcases hf2 k e with e2 | e2
                                 · exact h1.2.1 e2
                                 · omega, h1.2.2⟩
  · rcases hf2 k hk with e | e
    · exact e1 k e eE
    · have := hE k eE; omega
theorem QuadE.turn {W X X' : World} {b c : Nat} {lc l : List ByteArray} {lv sv : Value} {E : Nat → Prop} (h : QuadE W X b lc c l lv sv E) (g : Gr E X X') (hW : ∀ j, E j → W.heap.size ≤ j) (hL : ∀ k, lv.ownBlock = some k → ¬ E k) (hV : ∀ k, sv.ownBlock = some k → ¬ E k) : QuadE W X' b lc c l lv sv E := by
  obtain ⟨m, svc, m', sv', ht, ht', hf, hf', hg, hs, hd, hsn, hsr, e1, e2⟩ := h
  exact ⟨m, svc, m', sv', ht.gr g e1, ht'.gr g e2, hf, hf', hg.trans' g (fun i hi e => by have := hW i e; omega), hs.gr g hL, fun k hk => ⟨Nat.lt_of_lt_of_le (hd k hk).1 g.size, (hd k hk).2⟩, hsn.gr g hV, hsr, e1, e2⟩
theorem QuadE.set {W X : World} {b c : Nat} {lc l : List ByteArray} {lv sv : Value} {E : Nat → Prop} (h : QuadE W X b lc c l lv sv E) (p : Addr) (v : Value) {o : Obj} (ho : X.heap[p.block]? = some o) (h2 : Other o) (hW : W.heap.size ≤ p.block) (hL : ∀ k, lv.ownBlock = some k → k ≠ p.block) (hV : ∀ k, sv.ownBlock = some k → k ≠ p.block) : QuadE W (X.setCell p v) b lc c l lv sv E := by
  obtain ⟨m, svc, m', sv', ht, ht', hf, hf', hg, hs, hd, hsn, hsr, e1, e2⟩ := h
  have g : Gr (fun i => i = p.block) X (X.setCell p v) := Gr.set X p v rfl
  exact ⟨m, svc, m', sv', ht.gr g (fun k hk e => ht.other ho h2 (e ▸ hk)), ht'.gr g (fun k hk e => ht'.other ho h2 (e ▸ hk)), hf, hf', hg.trans' g (fun i hi e => by omega), hs.gr g (fun k hk => hL k hk), fun k hk => ⟨by simpa using (hd k hk).1, (hd k hk).2⟩, hsn.gr g (fun k hk => hV k hk), hsr, e1, e2⟩
theorem QuadE.gr0 {W X X' : World} {b c : Nat} {lc l : List ByteArray} {lv sv : Value} {E : Nat → Prop} (h : QuadE W X b lc c l lv sv E) (g : Gr (fun _ => False) X X') : QuadE W X' b lc c l lv sv E := by
  obtain ⟨m, svc, m', sv', ht, ht', hf, hf', hg, hs, hd, hsn, hsr, e1, e2⟩ := h
  exact ⟨m, svc, m', sv', ht.gr g (fun _ _ e => e), ht'.gr g (fun _ _ e => e), hf, hf', hg.trans g, hs.gr g (fun _ _ e => e), fun k hk => ⟨Nat.lt_of_lt_of_le (hd k hk).1 g.size, (hd k hk).2⟩, hsn.gr g (fun _ _ e => e), hsr, e1, e2⟩
end Go.Proofs.Ytipdniiamaaolaa
