/-
  A text's tree: what the statements call 'parse'.
-/
import Derived.Test.YtbmbgnmkakkpfaaDoorGM
set_option linter.unusedVariables false
set_option linter.unusedSimpArgs false
namespace Go.Proofs.YtbmbgnmkakkpfaaDoor
open Go.RowKit Go.Maps

theorem sg_short : ∀ l ∈ signs, l.length ≤ 60 := by decide +kernel
/-- Tokens are short. -/
def Shrt (t : Tok) : Prop := t.s.size ≤ 60 ∧ t.b.length ≤ 16384
theorem tokV_sz {s : ByteArray} {i j : Nat} {t : Tok} (hs : s.size ≤ 16384) (hi : i < s.size) (h : tokV s i = .ok (t, j)) : Shrt t := by
  refine ⟨?_, Nat.le_trans (tokV_ok hi h).2.2.2 hs⟩
  unfold tokV at h
  split at h
  · split at h
    · cases h
    · cases h; exact Nat.zero_le _
  · split at h
    · split at h
      · cases h
      · cases h; exact Nat.zero_le _
    · split at h
      · split at h
        · cases h
        · rename_i hn
          cases h
          show (s.extract i (span inN s i)).size ≤ 60
          rw [ByteArray.size_extract]
          omega
      · split at h
        · cases h
        · rename_i l hq
          cases h
          have := sg_short l (sgn_ok hq (by omega)).1
          show (sb l).size ≤ 60
          rw [show (sb l).size = l.length by simp [sb, ByteArray.size]]; exact this
theorem scn_all {s : ByteArray} (hs : s.size ≤ 16384) : ∀ (f i : Nat) (ts l : List Tok), scn s f i ts = .ok l → (∀ t ∈ ts, Shrt t) → ts.length ≤ 4000 → (∀ t ∈ l, Shrt t) ∧ l.length ≤ 4000
  | 0, i, ts, l, h, h1, h2 => by simp [scn] at h; subst h; exact ⟨h1, h2⟩
  | f + 1, i, ts, l, h, h1, h2 => by
    rw [scn] at h
    split at h
    · rename_i hi
      split at h
      · cases h
      · rename_i hl
        cases ht : tokV s i with
        | error c => rw [ht] at h; cases h
        | ok v =>
          obtain ⟨t, j⟩ := v
          rw [ht] at h
          refine scn_all hs f _ _ l h (fun u hu => ?_) (by simp; omega)
          rcases List.mem_append.1 hu with hu | hu
          · exact h1 u hu
          · rw [List.mem_singleton] at hu; subst hu; exact tokV_sz hs hi ht
    · cases h; exact ⟨h1, h2⟩
theorem scanV_all {s : ByteArray} {l : List Tok} (h : scanV s = .ok l) : (∀ t ∈ l, Shrt t) ∧ l.length ≤ 4000 := by
  unfold scanV at h
  split at h
  · cases h
  · exact scn_all (by omega) _ _ _ _ h (fun t ht => by cases ht) (by simp)

/-- A token of Scan as it is handed to Parse. -/
def tnOf (t : Tok) : Tn := ⟨t.k, t.s, t.n, t.b, (t.at' : Int)⟩
theorem tkcs_tn : ∀ (l : List Tok) (vs : List Value), tkcs l vs = tncs (l.map tnOf) vs
  | [], vs => by cases vs <;> rfl
  | t :: l, [] => rfl
  | t :: l, v :: vs => by rw [tkcs, List.map_cons, tncs, tkcs_tn l vs]; rfl
theorem Bqs.bsk {W : World} {base : Nat} : ∀ {l : List Tok} {vs : List Value}, Bqs W base l vs → BsK (fun k => k < W.heap.size) W (l.map tnOf) vs
  | [], [], _ => trivial
  | t :: l, v :: vs, h => ⟨(rowB_own (bs := t.b) h.1.2).turn (fun k hk hl => ⟨hl, rfl⟩), Bqs.bsk h.2⟩
  | [], _ :: _, h => h.elim
  | _ :: _, [], h => h.elim
theorem Toks.rowk {W : World} {base : Nat} {l : List Tok} {vs : List Value} {a : Option Addr} {c : Nat} (h : Toks W base (.slice a l.length c) l vs) : RowK (fun k => k < W.heap.size) W (l.map tnOf) vs a c ∧ (l.map tnOf).length ≤ c := by
  have hl := h.2.len
  rcases h.1.2 with ⟨e, h0⟩ | ⟨g, cap, cur, e, hg, h2, h3, _, _, h6⟩
  · have : l = [] := List.eq_nil_of_length_eq_zero h0
    subst this
    have : vs = [] := List.eq_nil_of_length_eq_zero hl
    exact ⟨.inl ⟨rfl, this⟩, by simp⟩
  · simp only [Value.slice.injEq, true_and] at e
    obtain ⟨rfl, rfl⟩ := e
    exact ⟨.inr ⟨g, cur, rfl, (Array.getElem?_eq_some_iff.1 h2).1, h2, by rw [List.length_map, ← tkcs_tn]; exact h6⟩, by simpa using h3⟩
/-- Parse of what Scan has told. -/
theorem parseT_c (W : World) (base : Nat) (s : ByteArray) (l : List Tok) (vs : List Value) (a : Option Addr) (c : Nat) (hs : scanV s = .ok l) (h : Toks W base (.slice a l.length c) l vs) (hL : Lv W) (h4 : 4 < W.heap.size) :
    Calls Tryd.prog 13 #[.slice a l.length c] W fun e w' => EndP W e w' (parseV (l.map tnOf)) := by
  obtain ⟨h1, h2⟩ := scanV_all hs
  have := parse_c W (l.map tnOf) vs a c h.rowk.1 h.2.bsk h.rowk.2 (by rw [List.length_map]; omega)
    (fun t ht => by obtain ⟨u, hu, rfl⟩ := List.mem_map.1 ht; have : u.s.size ≤ 60 := (h1 u hu).1; show u.s.size ≤ _; omega)
    (fun t ht => by obtain ⟨u, hu, rfl⟩ := List.mem_map.1 ht; have : u.b.length ≤ 16384 := (h1 u hu).2; show u.b.length ≤ _; omega) hL h4
  rw [List.length_map] at this
  exact this
/-- A text's tree, or what is wrong. -/
def textV (s : ByteArray) : Except (Nat × Int) Tr := match scanV s with
  | .error (i, c) => .error (0, c)
  | .ok l => parseV (l.map tnOf)
theorem scn_err {s : ByteArray} : ∀ (f i : Nat) (ts : List Tok) (k : Nat) (c : Int), scn s f i ts = .error (k, c) → c ≠ 0
  | 0, i, ts, k, c, h => by simp [scn] at h
  | f + 1, i, ts, k, c, h => by
    rw [scn] at h
    split at h
    · split at h
      · cases h; decide
      · cases ht : tokV s i with
        | error c' => rw [ht] at h; cases h; have := tokV_err ht; omega
        | ok v => obtain ⟨t, j⟩ := v; rw [ht] at h; exact scn_err f _ _ k c h
    · cases h
theorem scanV_err {s : ByteArray} {k : Nat} {c : Int} (h : scanV s = .error (k, c)) : c ≠ 0 := by
  unfold scanV at h
  split at h
  · cases h; decide
  · exact scn_err _ _ _ _ _ h
set_option maxRecDepth 100000 in
set_option maxHeartbeats 1600000 in
theorem text_c (W : World) (s : ByteArray) (hE : Er W) (hS : Sg W) (hL : Lv W) : Calls Tryd.prog 15 #[.string s] W fun e w' => EndP W e w' (textV s) := by
  have h4 : 4 < W.heap.size := by obtain ⟨_, t, f, h⟩ := hL; exact (Array.getElem?_eq_some_iff.1 h).1
  have g0 : Gr (fun _ => False) W (W.alloc (.cells zc 25)) := Gr.alloc _ _ _
  have hb0 := heap_alloc_new W (.cells zc 25)
  have hz0 : (W.alloc (.cells zc 25)).heap.size = W.heap.size + 1 := by simp
  have hsc := scan_c (W.alloc (.cells zc 25)) s (hE.gr g0 (fun e => e)) (hS.gr g0 (fun e => e))
  cases hv : scanV s with
  | error p =>
    obtain ⟨i, c⟩ := p
    have hc := scanV_err hv
    have q : (c != 0) = true := by rw [bne_iff_ne]; exact hc
    rw [hv] at hsc
    rw [textV, hv]
    clear hc
    go_enter Tryd.func15, Tryd.ntmps15
    go_wp2_with fail
    generalize W.alloc (.cells zc 25) = W0 at g0 hb0 hz0 hsc ⊢
    obtain ⟨b, hbb⟩ : ∃ b, W.heap.size = b := ⟨_, rfl⟩
    rw [hbb] at hb0 hz0 ⊢
    refine hsc.mono ?_
    rintro e w1 ⟨rfl, g1⟩
    have hb1 := g1.keep hb0 (fun e => e)
    obtain ⟨⟨m0, m1, m2, m3, m4⟩, f0, f1, f2, f3, f4⟩ := five_cells hb1
    go_wp2_with fail
    have gs := set5_gr w1 b (.int .i64 0) (.string e0) (.int .i64 0) nl nl
    have hf := set5_heap hb1 (.int .i64 0) (.string e0) (.int .i64 0) nl nl
    clear m0 m1 m2 m3 m4
    obtain ⟨⟨m0, m1, m2, m3, m4⟩, _⟩ := five_cells hf
    exact bodyPost_ret (v := .tuple #[tr0v, .int .i64 0, .int .i64 c]) (by simp [results, Tryd.results15, go_sem, m0, m1, m2, m3, m4]) rfl ⟨rfl, (g0.trans g1).trans' gs (fun k hk e => by omega)⟩
  | ok l =>
    rw [hv] at hsc
    rw [textV, hv]
    show Calls Tryd.prog 15 #[.string s] W fun e w' => EndP W e w' (parseV (l.map tnOf))
    have hp := fun w base vs a c h1 h2 h3 => parseT_c w base s l vs a c hv h1 h2 h3
    generalize parseV (l.map tnOf) = r at hp
    go_enter Tryd.func15, Tryd.ntmps15
    go_wp2_with fail
    generalize W.alloc (.cells zc 25) = W0 at g0 hb0 hz0 hsc ⊢
    obtain ⟨b, hbb⟩ : ∃ b, W.heap.size = b := ⟨_, rfl⟩
    rw [hbb] at hb0 hz0 ⊢
    refine hsc.mono ?_
    rintro e w1 ⟨sv, vs, rfl, hT, g1⟩
    have hb1 := g1.keep hb0 (fun e => e)
    obtain ⟨a, c, rfl⟩ := hT.sv
    have G1 := g0.trans g1
    have hcl := hp w1 _ vs a c hT (hL.gr G1 (fun e => e) (fun e => e)) (Nat.lt_of_lt_of_le h4 G1.size)
    go_wp2_with fail
    have hs1 := G1.size
    cases r with
    | error p =>
      obtain ⟨i, c'⟩ := p
      refine hcl.mono ?_
      rintro e w2 ⟨rfl, g2⟩
      have hb2 := g2.keep hb1 (fun e => e)
      obtain ⟨⟨m0, m1, m2, m3, m4⟩, f0, f1, f2, f3, f4⟩ := five_cells hb2
      go_wp2_with fail
      have gs := set5_gr w2 b (.int .i64 0) (.string e0) (.int .i64 0) nl nl
      have hf := set5_heap hb2 (.int .i64 0) (.string e0) (.int .i64 0) nl nl
      clear m0 m1 m2 m3 m4
      obtain ⟨⟨m0, m1, m2, m3, m4⟩, _⟩ := five_cells hf
      exact bodyPost_ret (v := .tuple #[tr0v, .int .i64 (i : Int), .int .i64 c']) (by simp [results, Tryd.results15, go_sem, m0, m1, m2, m3, m4]) rfl ⟨rfl, (G1.trans g2).trans' gs (fun k hk e => by omega)⟩
    | ok T =>
      refine hcl.mono ?_
      rintro e w2 ⟨v, rfl, rep2, g2⟩
      obtain ⟨tk, tt, tn, a1, n1, c1, a2, n2, c2, rfl⟩ := rep2.agg
      have hb2 := g2.keep hb1 (fun e => e)
      obtain ⟨⟨m0, m1, m2, m3, m4⟩, f0, f1, f2, f3, f4⟩ := five_cells hb2
      go_wp2_with fail
      have gs := set5_gr w2 b (.int .i64 tk) (.string tt) (.int .i64 tn) (.slice a1 n1 c1) (.slice a2 n2 c2)
      have hf := set5_heap hb2 (.int .i64 tk) (.string tt) (.int .i64 tn) (.slice a1 n1 c1) (.slice a2 n2 c2)
      clear m0 m1 m2 m3 m4
      obtain ⟨⟨m0, m1, m2, m3, m4⟩, _⟩ := five_cells hf
      have hsg := g1.size
      have rep := ((rep2.mono (base' := b + 1) (by omega)).gr gs (fun k hk e => by omega)).mono (base' := W.heap.size) (by omega)
      exact bodyPost_ret (v := .tuple #[trv tk tt tn (.slice a1 n1 c1) (.slice a2 n2 c2), .int .i64 0, .int .i64 0]) (by simp [results, Tryd.results15, go_sem, m0, m1, m2, m3, m4]) rfl ⟨_, rfl, rep, (G1.trans g2).trans' gs (fun k hk e => by omega)⟩
end Go.Proofs.YtbmbgnmkakkpfaaDoor
