/-
  A table beside the document's list: each call leaves the other as it was.
-/
import Derived.Test.YtipdniiamaaolaaP
namespace Go.Proofs.Ytipdniiamaaolaa
open Go.RowKit Go.Maps Go.WideMaps Go.Shelf

/-- In X a table b with the names l, and a list lv of the names l2, apart from it; nothing that was there in W has turned. -/
def Duo (W X : World) (b : Nat) (l : List ByteArray) (lv : Value) (l2 : List ByteArray) : Prop :=
  ∃ m sv, Tab X b m sv l ∧ (∀ k, Fp b m sv k → W.heap.size ≤ k) ∧ Gr (fun _ => False) W X ∧ Snap X lv l2 ∧ ∀ k, lv.ownBlock = some k → k < X.heap.size ∧ ¬ Fp b m sv k

theorem duo_new {W X : World} {b : Nat} (h : Own W X b []) : Duo W X b [] (.slice none 0 0) [] := by
  obtain ⟨m, sv, ht, hf, hg⟩ := h
  exact ⟨m, sv, ht, hf, hg, ⟨by simp, .inl ⟨rfl, _, _, rfl⟩⟩, fun k hk => by cases hk⟩
theorem Duo.own {W X : World} {b : Nat} {l l2 : List ByteArray} {lv : Value} (h : Duo W X b l lv l2) : Own W X b l := by
  obtain ⟨m, sv, ht, hf, hg, _⟩ := h
  exact ⟨m, sv, ht, hf, hg⟩
theorem Duo.snap {W X : World} {b : Nat} {l l2 : List ByteArray} {lv : Value} (h : Duo W X b l lv l2) : Snap X lv l2 := by
  obtain ⟨_, _, _, _, _, hs, _⟩ := h; exact hs
theorem Duo.keep {W X : World} {b : Nat} {l l2 : List ByteArray} {lv : Value} (h : Duo W X b l lv l2) : Gr (fun _ => False) W X := by
  obtain ⟨_, _, _, _, hg, _⟩ := h; exact hg
theorem Duo.gr {W X X' : World} {b : Nat} {l l2 : List ByteArray} {lv : Value} (h : Duo W X b l lv l2) (g : Gr (fun _ => False) X X') : Duo W X' b l lv l2 := by
  obtain ⟨m, sv, ht, hf, hg, hs, hd⟩ := h
  exact ⟨m, sv, ht.gr g (fun _ _ e => e), hf, hg.trans g, hs.gr g (fun _ _ e => e), fun k hk => ⟨Nat.lt_of_lt_of_le (hd k hk).1 g.size, (hd k hk).2⟩⟩
theorem duo_refPut {W X : World} {b : Nat} {l l2 : List ByteArray} {lv : Value} (s : ByteArray) (h : Duo W X b l lv l2) :
    Calls Try.prog 13 #[lv, .string s] X fun e X' => ∃ lv', e = .returned (.tuple #[lv', .int .i64 (putN l2 s), .int .i64 (putE l2 s)]) ∧ Duo W X' b l lv' (putL l2 s) ∧ Gr (fun _ => False) X X' := by
  obtain ⟨m, sv, ht, hf, hg, hs, hd⟩ := h
  refine (refPut_c X lv l2 s hs).mono ?_
  rintro e X' ⟨lv', he, hs', hg', hloc⟩
  refine ⟨lv', he, ⟨m, sv, ht.gr hg' (fun _ _ e => e), hf, hg.trans hg', hs', fun k hk => ?_⟩, hg'⟩
  rcases hloc with rfl | hl
  · exact ⟨Nat.lt_of_lt_of_le (hd k hk).1 hg'.size, (hd k hk).2⟩
  · exact ⟨(hl k hk).2, fun e => by have := ht.lt k e; have := (hl k hk).1; omega⟩
theorem duo_put {W X : World} {b : Nat} {l l2 : List ByteArray} {lv : Value} (s : ByteArray) (h : Duo W X b l lv l2) :
    Calls Try.prog 14 #[pt b, .string s] X fun e X' => e = .returned (.tuple #[.int .i64 (putN l s), .int .i64 (putE l s)]) ∧ Duo W X' b (putL l s) lv l2 := by
  obtain ⟨m, sv, ht, hf, hg, hs, hd⟩ := h
  refine (put_c X b m sv l s ht).mono ?_
  rintro e X' ⟨he, m', sv', ht', hg', hf', _⟩
  have hsz := hg.size
  have hsz' := hg'.size
  refine ⟨he, m', sv', ht', fun k hk => ?_, hg.trans' hg' (fun i hi e => by have := hf i e; omega), hs.gr hg' (fun k hk => (hd k hk).2), fun k hk => ?_⟩
  · rcases hf' k hk with e | e
    · exact hf k e
    · omega
  · have h1 := hd k hk
    exact ⟨by omega, fun e => by rcases hf' k e with e2 | e2
                                 · exact h1.2 e2
                                 · omega⟩
/-- Two tables and a list, each apart from the others. -/
def Trio (W X : World) (b : Nat) (l : List ByteArray) (c : Nat) (l1 : List ByteArray) (lv : Value) (l2 : List ByteArray) : Prop :=
  ∃ m sv m' sv', Tab X b m sv l ∧ Tab X c m' sv' l1 ∧ (∀ k, Fp b m sv k → W.heap.size ≤ k ∧ ¬ Fp c m' sv' k) ∧ (∀ k, Fp c m' sv' k → W.heap.size ≤ k) ∧ Gr (fun _ => False) W X ∧ Snap X lv l2 ∧ ∀ k, lv.ownBlock = some k → k < X.heap.size ∧ ¬ Fp b m sv k ∧ ¬ Fp c m' sv' k
theorem duo_copy {W X : World} {b : Nat} {l l2 : List ByteArray} {lv : Value} (h : Duo W X b l lv l2) :
    Calls Try.prog 19 #[pt b] X fun e X' => ∃ c, e = .returned (pt c) ∧ Trio W X' b l c l lv l2 ∧ Gr (fun _ => False) X X' := by
  obtain ⟨m, sv, ht, hf, hg, hs, hd⟩ := h
  refine (copy_c X b m sv l ht).mono ?_
  rintro e X' ⟨c, m', sv', he, ht', hg', hf'⟩
  have hsz := hg.size
  refine ⟨c, he, ⟨m, sv, m', sv', ht.gr hg' (fun _ _ e => e), ht', fun k hk => ⟨hf k hk, fun e => ?_⟩, fun k hk => ?_, hg.trans hg', hs.gr hg' (fun _ _ e => e), fun k hk => ?_⟩, hg'⟩
  · have := hf' k e; have := ht.lt k hk; omega
  · have := hf' k hk; omega
  · have h1 := hd k hk
    exact ⟨Nat.lt_of_lt_of_le h1.1 hg'.size, h1.2, fun e => by have := hf' k e; omega⟩
theorem trio_put {W X : World} {b c : Nat} {l l1 l2 : List ByteArray} {lv : Value} (s : ByteArray) (h : Trio W X b l c l1 lv l2) :
    Calls Try.prog 14 #[pt b, .string s] X fun e X' => e = .returned (.tuple #[.int .i64 (putN l s), .int .i64 (putE l s)]) ∧ Trio W X' b (putL l s) c l1 lv l2 := by
  obtain ⟨m, sv, m', sv', ht, ht', hf, hf', hg, hs, hd⟩ := h
  refine (put_c X b m sv l s ht).mono ?_
  rintro e X' ⟨he, m2, sv2, ht2, hg2, hf2, _⟩
  have hsz := hg.size
  have hsz' := hg2.size
  refine ⟨he, m2, sv2, m', sv', ht2, ht'.gr hg2 (fun k hk e => (hf k e).2 hk), fun k hk => ?_, hf', hg.trans' hg2 (fun i hi e => by have := (hf i e).1; omega), hs.gr hg2 (fun k hk => (hd k hk).2.1), fun k hk => ?_⟩
  · rcases hf2 k hk with e | e
    · exact hf k e
    · exact ⟨by omega, fun e2 => by have := ht'.lt k e2; omega⟩
  · have h1 := hd k hk
    exact ⟨by omega, fun e => by rcases hf2 k e with e2 | e2
                                 · exact h1.2.1 e2
                                 · omega, h1.2.2⟩
theorem Trio.duo {W X : World} {b c : Nat} {l l1 l2 : List ByteArray} {lv : Value} (h : Trio W X b l c l1 lv l2) : Duo W X c l1 lv l2 := by
  obtain ⟨m, sv, m', sv', ht, ht', hf, hf', hg, hs, hd⟩ := h
  exact ⟨m', sv', ht', hf', hg, hs, fun k hk => ⟨(hd k hk).1, (hd k hk).2.2⟩⟩
theorem duo_all {W X : World} {b : Nat} {l : List ByteArray} {lv : Value} (st : Int) (h : Duo W X b l lv l) :
    Calls Try.prog 18 #[pt b, lv, .int .i64 st] X fun e X' => e = .returned (.bool true) ∧ Duo W X' b l lv l := by
  have h2 := h
  obtain ⟨m, sv, ht, hf, hg, hs, hd⟩ := h
  exact (tells_c X b m sv lv l st ht hs).mono fun e X' ⟨he, hg'⟩ => ⟨he, h2.gr hg'⟩
theorem duo_len {W X : World} {b : Nat} {l l2 : List ByteArray} {lv : Value} (h : Duo W X b l lv l2) : ∃ al cl, lv = .slice al l2.length cl := h.snap.sv
end Go.Proofs.Ytipdniiamaaolaa
