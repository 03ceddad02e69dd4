/-
  A row of tokens, element by element; the chapter's examples.
-/
import Derived.Test.YtnojhboflegkdaaDoorM
set_option linter.unusedVariables false
set_option linter.unusedSimpArgs false
namespace Go.Proofs.YtnojhboflegkdaaDoor
open Go.RowKit Go.Maps

theorem tkcs_at {W : World} {base : Nat} : ∀ {ts : List Tok} {vs : List Value}, Bqs W base ts vs → ∀ (k : Nat) (t : Tok), ts[k]? = some t → ∃ v, Bq W base t v ∧ ∀ j u, (tkc t v)[j]? = some u → (tkcs ts vs)[k * 5 + j]? = some u
  | [], [], _, k, t, h => by simp at h
  | a :: ts, b :: vs, hb, 0, t, h => by
    simp at h; subst h
    refine ⟨b, hb.1, fun j u hj => ?_⟩
    rw [tkcs, Nat.zero_mul, Nat.zero_add, List.getElem?_append_left]
    · exact hj
    · exact (List.getElem?_eq_some_iff.1 hj).1
  | a :: ts, b :: vs, hb, k + 1, t, h => by
    obtain ⟨v, h1, h2⟩ := tkcs_at hb.2 k t (by simpa using h)
    refine ⟨v, h1, fun j u hj => ?_⟩
    rw [tkcs, List.getElem?_append_right (by simp; omega)]
    rw [← h2 j u hj]
    congr 1
    simp
    omega
  | [], _ :: _, h, _, _, _ => h.elim
  | _ :: _, [], h, _, _, _ => h.elim
/-- A token of a row: its five cells. -/
def TkAt (W : World) (base g k : Nat) (t : Tok) : Prop := ∃ a c, Bq W base t (.slice a t.b.length c) ∧ W.cell? ⟨g, k * 5, none⟩ = some (.int .i64 t.k) ∧ W.cell? ⟨g, k * 5 + 1, none⟩ = some (.string t.s) ∧ W.cell? ⟨g, k * 5 + 2, none⟩ = some (.int .i64 t.n) ∧
  W.cell? ⟨g, k * 5 + 3, none⟩ = some (.slice a t.b.length c) ∧ W.cell? ⟨g, k * 5 + 4, none⟩ = some (.int .i64 (t.at' : Int))
theorem Toks.sv {W : World} {base : Nat} {sv : Value} {ts : List Tok} {vs : List Value} (h : Toks W base sv ts vs) : ∃ a c, sv = .slice a ts.length c := ownsRow_sv h.1
theorem Toks.row {W : World} {base : Nat} {ts : List Tok} {vs : List Value} {a : Option Addr} {c : Nat} (h : Toks W base (.slice a ts.length c) ts vs) (hne : 0 < ts.length) :
    ∃ g, a = some ⟨g, 0, none⟩ ∧ g < W.heap.size ∧ ts.length ≤ c ∧ ∀ k t, ts[k]? = some t → TkAt W base g k t := by
  rcases h.1.2 with ⟨e, h0⟩ | ⟨g, cap, cur, e, hb, hg, hc, hm, h5, h6⟩
  · omega
  · simp only [Value.slice.injEq, true_and] at e
    obtain ⟨rfl, rfl⟩ := e
    refine ⟨g, rfl, (Array.getElem?_eq_some_iff.1 hg).1, hc, fun k t ht => ?_⟩
    obtain ⟨v, h1, h2⟩ := tkcs_at h.2 k t ht
    obtain ⟨⟨a, c, rfl⟩, h1'⟩ := h1
    have hcell : ∀ j u, (tkc t (.slice a t.b.length c))[j]? = some u → W.cell? ⟨g, k * 5 + j, none⟩ = some u := by
      intro j u hu
      have e := h2 j u hu
      rw [← h6] at e
      have hlt : k * 5 + j < ts.length * 5 := by
        rcases Nat.lt_or_ge (k * 5 + j) (ts.length * 5) with h | h
        · exact h
        · rw [List.getElem?_eq_none (by simp; omega)] at e; cases e
      rw [List.getElem?_take_of_lt hlt] at e
      simp only [World.cell?, hg]
      simpa using e
    exact ⟨a, c, ⟨⟨_, _, rfl⟩, h1'⟩, hcell 0 _ rfl, hcell 1 _ rfl, hcell 2 _ rfl, hcell 3 _ rfl, hcell 4 _ rfl⟩
theorem TkAt.gr {W W' : World} {base g k : Nat} {t : Tok} (h : TkAt W base g k t) (gr : Gr (fun _ => False) W W') : TkAt W' base g k t := by
  obtain ⟨a, c, hb, c0, c1, c2, c3, c4⟩ := h
  have kp : ∀ o u, W.cell? ⟨g, o, none⟩ = some u → W'.cell? ⟨g, o, none⟩ = some u := fun o u hc => by
    have hlt := World.block_lt_of_cell? _ _ hc
    simp only [World.cell?] at hc ⊢
    rw [gr.block g hlt (fun e => e)]; exact hc
  exact ⟨a, c, ⟨hb.1, ownsRow_gr hb.2 gr (fun _ _ e => e)⟩, kp _ _ c0, kp _ _ c1, kp _ _ c2, kp _ _ c3, kp _ _ c4⟩

abbrev tx1 : ByteArray := ⟨#[102, 40, 88, 41, 32, 45, 62, 32, 88, 32, 43, 32, 49, 46, 32, 37, 32, 110, 111, 116, 101]⟩
abbrev tx2 : ByteArray := ⟨#[97, 32, 63]⟩
abbrev tx3 : ByteArray := ⟨#[49, 97]⟩
def isOne : Except (Nat × Int) (List Tok) → Bool
  | .ok [t0, t1, t2, t3, t4, t5, t6, t7, t8] => (t0.k == 2) && (t4.s.toList == [45, 62]) && (t7.n == 1) && (t2.k == 3) && (t2.s.toList == [88]) && (t2.n == 0) && t2.b.isEmpty
  | _ => false
def isErr (i : Nat) (c : Int) : Except (Nat × Int) (List Tok) → Bool
  | .error (j, d) => (j == i) && (d == c)
  | _ => false
theorem one1 : isOne (scanV tx1) = true := by decide +kernel
theorem err2 : isErr 2 151 (scanV tx2) = true := by decide +kernel
theorem err3 : isErr 0 152 (scanV tx3) = true := by decide +kernel
theorem list_ba {s t : ByteArray} (h : s.toList = t.data.toList) : s = t := by
  rw [ByteArray.toList_eq] at h
  apply ByteArray.ext
  exact Array.toList_inj.1 h
theorem scanE (W : World) (s : ByteArray) (i : Nat) (c : Int) (h : isErr i c (scanV s) = true) (hE : Er W) (hS : Sg W) : Calls Tryd.prog 10 #[.string s] W fun e w' => e = .returned (.tuple #[nl, .int .i64 (i : Int), .int .i64 c]) ∧ Gr (fun _ => False) W w' := by
  refine (scan_c W s hE hS).mono ?_
  intro e w' h2
  cases hp : scanV s with
  | ok l => rw [hp] at h; cases h
  | error p =>
    obtain ⟨j, d⟩ := p
    rw [hp] at h h2
    simp [isErr] at h
    obtain ⟨rfl, rfl⟩ := h
    exact h2
theorem scan1 (W : World) (hE : Er W) (hS : Sg W) : Calls Tryd.prog 10 #[.string tx1] W fun e w' => ∃ g c t0 t2 t4 t7, e = .returned (.tuple #[.slice (some ⟨g, 0, none⟩) 9 c, .int .i64 0, .int .i64 0]) ∧ (g < w'.heap.size ∧ 9 ≤ c ∧ TkAt w' W.heap.size g 0 t0 ∧ t0.k = 2 ∧ TkAt w' W.heap.size g 4 t4 ∧ t4.s = ⟨#[45, 62]⟩ ∧ TkAt w' W.heap.size g 7 t7 ∧ t7.n = 1 ∧ TkAt w' W.heap.size g 2 t2 ∧ t2.k = 3 ∧ t2.s = ⟨#[88]⟩ ∧ t2.n = 0 ∧ t2.b = []) ∧ Gr (fun _ => False) W w' := by
  refine (scan_c W tx1 hE hS).mono ?_
  intro e w' h2
  have h := one1
  cases hp : scanV tx1 with
  | error p => rw [hp] at h; cases h
  | ok l =>
    rw [hp] at h h2
    obtain ⟨sv, vs, rfl, hT, hg⟩ := h2
    match l, h with
    | [t0, t1, t2, t3, t4, t5, t6, t7, t8], h =>
      simp [isOne] at h
      obtain ⟨⟨⟨⟨⟨⟨a1, a2⟩, a3⟩, a4⟩, a5⟩, a6⟩, a7⟩ := h
      obtain ⟨a, c, rfl⟩ := hT.sv
      obtain ⟨g, rfl, hgl, hc, hrow⟩ := hT.row (by simp)
      exact ⟨g, c, t0, t2, t4, t7, rfl, ⟨hgl, hc, hrow 0 t0 rfl, a1, hrow 4 t4 rfl, list_ba a2, hrow 7 t7 rfl, a3, hrow 2 t2 rfl, a4, list_ba a5, a6, a7⟩, hg⟩

theorem wrem : wrd ⟨#[114, 101, 109]⟩ = true := by decide +kernel
set_option maxRecDepth 100000 in
set_option maxHeartbeats 2000000 in
theorem alive_c (W : World) (hE : Er W) (hS : Sg W) (hT : Tb W) : Calls Tryd.prog 9 #[] W fun e w' => e = .returned (.bool true) ∧ Gr (fun _ => False) W w' := by
  have hw := fun w => word_c ⟨#[114, 101, 109]⟩ w
  rw [wrem] at hw
  go_enter Tryd.func9, Tryd.ntmps9
  go_wp2_with fail
  refine (scan1 W hE hS).mono ?_
  rintro e w1 ⟨g, c, t0, t2, t4, t7, rfl, hf, g1⟩
  replace hf := Lib.hid hf
  go_wp2_with fail
  refine (scanE w1 tx2 2 151 err2 (hE.gr g1 (fun e => e)) (hS.gr g1 (fun e => e))).mono ?_
  rintro e w2 ⟨rfl, g2⟩
  go_wp2_with fail
  refine (scanE w2 tx3 0 152 err3 (hE.gr (g1.trans g2) (fun e => e)) (hS.gr (g1.trans g2) (fun e => e))).mono ?_
  rintro e w3 ⟨rfl, g3⟩
  have G := (g1.trans g2).trans g3
  obtain ⟨hgl, hc, k0, e0', k4, e4, k7, e7, k2, e2, e2s, e2n, e2b⟩ := hf.out
  obtain ⟨_, _, _, c00, _⟩ := k0.gr (g2.trans g3)
  obtain ⟨_, _, _, _, c41, _⟩ := k4.gr (g2.trans g3)
  obtain ⟨_, _, _, _, _, c72, _⟩ := k7.gr (g2.trans g3)
  obtain ⟨a, c', hB, c20, c21, c22, c23, c24⟩ := k2.gr (g2.trans g3)
  rw [e0'] at c00
  rw [e4] at c41
  rw [e7] at c72
  rw [e2] at c20
  rw [e2s] at c21
  rw [e2n] at c22
  rw [e2b] at c23
  have hsp := fun w (gw : Gr (fun _ => False) w3 w) => spell_c w 3 ⟨#[88]⟩ 0 (.slice a ([] : List Int).length c') t2.at' [] (by have := hB.sb.gr gw; rw [e2b] at this; exact this) (by simp) (by simp) (by decide) (by decide) (hT.gr (G.trans gw) (fun e => e))
  rw [show spV 3 ⟨#[88]⟩ 0 [] = ⟨#[88]⟩ by rfl] at hsp
  have hgl3 : g < w3.heap.size := by have := (g2.trans g3).size; omega
  simp only [List.length_nil] at c23 hsp
  clear hf k0 e0' k4 e4 k7 e7 k2 e2 e2s e2n e2b hB hgl
  simp only [Nat.reduceMul, Nat.reduceAdd, Nat.zero_mul] at c00 c41 c72 c20 c21 c22 c23 c24
  go_wp2_with (first | (go_at_call 15; refine (hw _).mono ?_; rintro e w' ⟨rfl, rfl⟩) | (go_at_call 13; refine (hsp _ (Gr.refl _ _)).mono ?_; rintro e w4 ⟨rfl, g4⟩))
  go_ret
  exact ⟨rfl, G.trans g4⟩
end Go.Proofs.YtnojhboflegkdaaDoor
