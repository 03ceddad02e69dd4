/-
  Carried over from another seat of ours (N).
-/
import Derived.Test.YtbmbgnmkakkpfaaDoorK
import Derived.Test.YtbmbgnmkakkpfaaDoorJ
set_option linter.unusedVariables false
set_option linter.unusedSimpArgs false
namespace Go.Proofs.YtbmbgnmkakkpfaaDoor
open Go.RowKit Go.Maps

theorem tkcs_at {W : World} {base : Nat} : ∀ {ts : List Tok} {vs : List Value}, Bqs W base ts vs → ∀ (k : Nat) (t : Tok), ts[k]? = some t → ∃ v, Bq W base t v ∧ ∀ j u, (tkc t v)[j]? = some u → (tkcs ts vs)[k * 5 + j]? = some u
  | [], [], _, k, t, h => by simp at h
  | a :: ts, b :: vs, hb, 0, t, h => by
    simp at h; subst h
    refine ⟨b, hb.1, fun j u hj => ?_⟩
    rw [tkcs, Nat.zero_mul, Nat.zero_add, List.getElem?_append_left]
    · exact hj
    · exact (List.getElem?_eq_some_iff.1 hj).1
  | a :: ts, b :: vs, hb, k + 1, t, h => by
    obtain ⟨v, h1, h2⟩ := tkcs_at hb.2 k t (by simpa using h)
    refine ⟨v, h1, fun j u hj => ?_⟩
    rw [tkcs, List.getElem?_append_right (by simp; omega)]
    rw [← h2 j u hj]
    congr 1
    simp
    omega
  | [], _ :: _, h, _, _, _ => h.elim
  | _ :: _, [], h, _, _, _ => h.elim
/-- A token of a row: its five cells. -/
def TkAt (W : World) (base g k : Nat) (t : Tok) : Prop := ∃ a c, Bq W base t (.slice a t.b.length c) ∧ W.cell? ⟨g, k * 5, none⟩ = some (.int .i64 t.k) ∧ W.cell? ⟨g, k * 5 + 1, none⟩ = some (.string t.s) ∧ W.cell? ⟨g, k * 5 + 2, none⟩ = some (.int .i64 t.n) ∧
  W.cell? ⟨g, k * 5 + 3, none⟩ = some (.slice a t.b.length c) ∧ W.cell? ⟨g, k * 5 + 4, none⟩ = some (.int .i64 (t.at' : Int))
theorem Toks.sv {W : World} {base : Nat} {sv : Value} {ts : List Tok} {vs : List Value} (h : Toks W base sv ts vs) : ∃ a c, sv = .slice a ts.length c := ownsRow_sv h.1
theorem Toks.row {W : World} {base : Nat} {ts : List Tok} {vs : List Value} {a : Option Addr} {c : Nat} (h : Toks W base (.slice a ts.length c) ts vs) (hne : 0 < ts.length) :
    ∃ g, a = some ⟨g, 0, none⟩ ∧ g < W.heap.size ∧ ts.length ≤ c ∧ ∀ k t, ts[k]? = some t → TkAt W base g k t := by
  rcases h.1.2 with ⟨e, h0⟩ | ⟨g, cap, cur, e, hb, hg, hc, hm, h5, h6⟩
  · omega
  · simp only [Value.slice.injEq, true_and] at e
    obtain ⟨rfl, rfl⟩ := e
    refine ⟨g, rfl, (Array.getElem?_eq_some_iff.1 hg).1, hc, fun k t ht => ?_⟩
    obtain ⟨v, h1, h2⟩ := tkcs_at h.2 k t ht
    obtain ⟨⟨a, c, rfl⟩, h1'⟩ := h1
    have hcell : ∀ j u, (tkc t (.slice a t.b.length c))[j]? = some u → W.cell? ⟨g, k * 5 + j, none⟩ = some u := by
      intro j u hu
      have e := h2 j u hu
      rw [← h6] at e
      have hlt : k * 5 + j < ts.length * 5 := by
        rcases Nat.lt_or_ge (k * 5 + j) (ts.length * 5) with h | h
        · exact h
        · rw [List.getElem?_eq_none (by simp; omega)] at e; cases e
      rw [List.getElem?_take_of_lt hlt] at e
      simp only [World.cell?, hg]
      simpa using e
    exact ⟨a, c, ⟨⟨_, _, rfl⟩, h1'⟩, hcell 0 _ rfl, hcell 1 _ rfl, hcell 2 _ rfl, hcell 3 _ rfl, hcell 4 _ rfl⟩
theorem TkAt.gr {W W' : World} {base g k : Nat} {t : Tok} (h : TkAt W base g k t) (gr : Gr (fun _ => False) W W') : TkAt W' base g k t := by
  obtain ⟨a, c, hb, c0, c1, c2, c3, c4⟩ := h
  have kp : ∀ o u, W.cell? ⟨g, o, none⟩ = some u → W'.cell? ⟨g, o, none⟩ = some u := fun o u hc => by
    have hlt := World.block_lt_of_cell? _ _ hc
    simp only [World.cell?] at hc ⊢
    rw [gr.block g hlt (fun e => e)]; exact hc
  exact ⟨a, c, ⟨hb.1, ownsRow_gr hb.2 gr (fun _ _ e => e)⟩, kp _ _ c0, kp _ _ c1, kp _ _ c2, kp _ _ c3, kp _ _ c4⟩

def isErr (i : Nat) (c : Int) : Except (Nat × Int) (List Tok) → Bool
  | .error (j, d) => (j == i) && (d == c)
  | _ => false
theorem list_ba {s t : ByteArray} (h : s.toList = t.data.toList) : s = t := by
  rw [ByteArray.toList_eq] at h
  apply ByteArray.ext
  exact Array.toList_inj.1 h
theorem scanE (W : World) (s : ByteArray) (i : Nat) (c : Int) (h : isErr i c (scanV s) = true) (hE : Er W) (hS : Sg W) : Calls Tryd.prog 12 #[.string s] W fun e w' => e = .returned (.tuple #[nl, .int .i64 (i : Int), .int .i64 c]) ∧ Gr (fun _ => False) W w' := by
  refine (scan_c W s hE hS).mono ?_
  intro e w' h2
  cases hp : scanV s with
  | ok l => rw [hp] at h; cases h
  | error p =>
    obtain ⟨j, d⟩ := p
    rw [hp] at h h2
    simp [isErr] at h
    obtain ⟨rfl, rfl⟩ := h
    exact h2
end Go.Proofs.YtbmbgnmkakkpfaaDoor

