/-
  Carried over from another seat of ours (GN).
  Carried over from another seat of ours (GO).
  Carried over from another seat of ours (GP).
-/
import Derived.Test.YtjedbfbolifjjaaGreatDoorGL
set_option linter.unusedVariables false
set_option linter.unusedSimpArgs false
namespace Go.Proofs.YtjedbfbolifjjaaGreatDoor
open Go.RowKit Go.Maps
theorem sg_short : ∀ l ∈ signs, l.length ≤ 60 := by decide +kernel
/-- Tokens are short. -/
def Shrt (t : Tok) : Prop := t.s.size ≤ 60 ∧ t.b.length ≤ 16384
theorem tokV_sz {s : ByteArray} {i j : Nat} {t : Tok} (hs : s.size ≤ 16384) (hi : i < s.size) (h : tokV s i = .ok (t, j)) : Shrt t := by
 refine ⟨?_, Nat.le_trans (tokV_ok hi h).2.2.2 hs⟩
 unfold tokV at h
 split at h
 · split at h
   · cases h
   · cases h; exact Nat.zero_le _
 ·
  split at h
  · split at h
    · cases h
    · cases h; exact Nat.zero_le _
  ·
   split at h
   · split at h
     · cases h
     · rename_i hn
       cases h
       show (s.extract i (span inN s i)).size ≤ 60
       rw [ByteArray.size_extract]
       omega
   · split at h
     · cases h
     · rename_i l hq
       cases h
       have := sg_short l (sgn_ok hq (by omega)).1
       show (sb l).size ≤ 60
       rw [show (sb l).size = l.length by simp [sb, ByteArray.size]]; exact this
theorem scn_all {s : ByteArray} (hs : s.size ≤ 16384) : ∀ (f i : Nat) (ts l : List Tok), scn s f i ts = .ok l → (∀ t ∈ ts, Shrt t) → ts.length ≤ 4000 → (∀ t ∈ l, Shrt t) ∧ l.length ≤ 4000
 | 0, i, ts, l, h, h1, h2 => by simp [scn] at h; subst h; exact ⟨h1, h2⟩
 | f + 1, i, ts, l, h, h1, h2 => by
  rw [scn] at h
  split at h
  ·
   rename_i hi
   split at h
   · cases h
   ·
    rename_i hl
    cases ht : tokV s i with
    | error c => rw [ht] at h; cases h
    | ok v =>
     obtain ⟨t, j⟩ := v
     rw [ht] at h
     refine scn_all hs f _ _ l h (fun u hu => ?_) (by simp; omega)
     rcases List.mem_append.1 hu with hu | hu
     · exact h1 u hu
     · rw [List.mem_singleton] at hu; subst hu; exact tokV_sz hs hi ht
  · cases h; exact ⟨h1, h2⟩
theorem scanV_all {s : ByteArray} {l : List Tok} (h : scanV s = .ok l) : (∀ t ∈ l, Shrt t) ∧ l.length ≤ 4000 := by
 unfold scanV at h
 split at h
 · cases h
 · exact scn_all (by omega) _ _ _ _ h (fun t ht => by cases ht) (by simp)

/-- A token of Scan as it is handed to Parse. -/
def tnOf (t : Tok) : Tn := ⟨t.k, t.s, t.n, t.b, (t.at' : Int)⟩
theorem tkcs_tn : ∀ (l : List Tok) (vs : List Value), tkcs l vs = tncs (l.map tnOf) vs
 | [], vs => by cases vs <;> rfl
 | t :: l, [] => rfl
 | t :: l, v :: vs => by rw [tkcs, List.map_cons, tncs, tkcs_tn l vs]; rfl
theorem Bqs.bsk {W : World} {base : Nat} : ∀ {l : List Tok} {vs : List Value}, Bqs W base l vs → BsK (fun k => k < W.heap.size) W (l.map tnOf) vs
 | [], [], _ => trivial
 | t :: l, v :: vs, h => ⟨(rowB_own (bs := t.b) h.1.2).turn (fun k hk hl => ⟨hl, rfl⟩), Bqs.bsk h.2⟩
 | [], _ :: _, h => h.elim
 | _ :: _, [], h => h.elim
theorem Toks.rowk {W : World} {base : Nat} {l : List Tok} {vs : List Value} {a : Option Addr} {c : Nat} (h : Toks W base (.slice a l.length c) l vs) : RowK (fun k => k < W.heap.size) W (l.map tnOf) vs a c ∧ (l.map tnOf).length ≤ c := by
 have hl := h.2.len
 rcases h.1.2 with ⟨e, h0⟩ | ⟨g, cap, cur, e, hg, h2, h3, _, _, h6⟩
 · have : l = [] := List.eq_nil_of_length_eq_zero h0
   subst this
   have : vs = [] := List.eq_nil_of_length_eq_zero hl
   exact ⟨.inl ⟨rfl, this⟩, by simp⟩
 · simp only [Value.slice.injEq, true_and] at e
   obtain ⟨rfl, rfl⟩ := e
   exact ⟨.inr ⟨g, cur, rfl, (Array.getElem?_eq_some_iff.1 h2).1, h2, by rw [List.length_map, ← tkcs_tn]; exact h6⟩, by simpa using h3⟩
/-- Parse of what Scan has told. -/
theorem parseT_c (W : World) (base : Nat) (s : ByteArray) (l : List Tok) (vs : List Value) (a : Option Addr) (c : Nat) (hs : scanV s = .ok l) (h : Toks W base (.slice a l.length c) l vs) (hL : Lv W) (h4 : 5 < W.heap.size) :
 Calls Tryz.prog 35 #[.slice a l.length c] W fun e w' => EndP W e w' (parseV (l.map tnOf)) := by
 obtain ⟨h1, h2⟩ := scanV_all hs
 have := parse_c W (l.map tnOf) vs a c h.rowk.1 h.2.bsk h.rowk.2 (by rw [List.length_map]; omega)
  (fun t ht => by obtain ⟨u, hu, rfl⟩ := List.mem_map.1 ht; have : u.s.size ≤ 60 := (h1 u hu).1; show u.s.size ≤ _; omega)
  (fun t ht => by obtain ⟨u, hu, rfl⟩ := List.mem_map.1 ht; have : u.b.length ≤ 16384 := (h1 u hu).2; show u.b.length ≤ _; omega) hL h4
 rw [List.length_map] at this
 exact this
/-- A text's tree, or what is wrong. -/
def textV (s : ByteArray) : Except (Nat × Int) Tr := match scanV s with
 | .error (i, c) => .error (0, c)
 | .ok l => parseV (l.map tnOf)
theorem scn_err {s : ByteArray} : ∀ (f i : Nat) (ts : List Tok) (k : Nat) (c : Int), scn s f i ts = .error (k, c) → c ≠ 0
 | 0, i, ts, k, c, h => by simp [scn] at h
 | f + 1, i, ts, k, c, h => by
  rw [scn] at h
  split at h
  · split at h
    · cases h; decide
    · cases ht : tokV s i with
      | error c' => rw [ht] at h; cases h; have := tokV_err ht; omega
      | ok v => obtain ⟨t, j⟩ := v; rw [ht] at h; exact scn_err f _ _ k c h
  · cases h
theorem scanV_err {s : ByteArray} {k : Nat} {c : Int} (h : scanV s = .error (k, c)) : c ≠ 0 := by
 unfold scanV at h
 split at h
 · cases h; decide
 · exact scn_err _ _ _ _ _ h
end Go.Proofs.YtjedbfbolifjjaaGreatDoor

namespace Go.Proofs.YtjedbfbolifjjaaGreatDoor
open Go.RowKit Go.Maps
variable {W W' : World}
theorem Reps.at {A : Nat → Prop} : ∀ {l : List Tr} {vs : List Value}, Reps A W l vs → ∀ (i : Nat) (T : Tr), l[i]? = some T → ∃ v', Rep A W T v' ∧ ∀ j u, (cellsOf v')[j]? = some u → (vs.flatMap cellsOf)[i * 5 + j]? = some u
 | [], vs, k, i, T, h => by simp at h
 | t :: l, vs, k, 0, T, h => by
  obtain ⟨v', r, rfl, k1, k2⟩ := k
  simp at h; subst h
  refine ⟨v', k1, fun j u hj => ?_⟩
  rw [List.flatMap_cons, Nat.zero_mul, Nat.zero_add, List.getElem?_append_left (List.getElem?_eq_some_iff.1 hj).1]
  exact hj
 | t :: l, vs, k, i + 1, T, h => by
  obtain ⟨v', r, rfl, k1, k2⟩ := k
  obtain ⟨v2, h1, h2⟩ := Reps.at k2 i T (by simpa using h)
  refine ⟨v2, h1, fun j u hj => ?_⟩
  obtain ⟨_, _, _, _, _, _, _, _, _, rfl⟩ := Rep.agg k1
  rw [List.flatMap_cons, List.getElem?_append_right (by simp [cellsOf]; omega), ← h2 j u hj]
  congr 1
  simp [cellsOf]
  omega
theorem Rep.kids {A : Nat → Prop} {k : Int} {s : ByteArray} {n : Int} {b : List Int} {l : List Tr} {v : Value} (h : Rep A W (.mk k s n b l) v) (hl : 0 < l.length) :
 ∃ ba bc g c, v = trv k s n (.slice ba b.length bc) (.slice (some ⟨g, 0, none⟩) l.length c) ∧ A g ∧ g < W.heap.size ∧ l.length ≤ c ∧ ∀ i T, l[i]? = some T → ∃ v', Rep A W T v' ∧ ∀ j u, (cellsOf v')[j]? = some u → W.cell? ⟨g, i * 5 + j, none⟩ = some u := by
 obtain ⟨bv, lv, vs, rfl, hb, hr, hreps⟩ := h
 obtain ⟨ba, bc, rfl⟩ := hb.sv
 rcases hr with ⟨h0, _⟩ | ⟨g, cap, cur, rfl, hg, hc, h1, h2⟩
 · omega
 ·
  refine ⟨ba, bc, g, cap, rfl, hg, (Array.getElem?_eq_some_iff.1 hc).1, h1, fun i T hi => ?_⟩
  obtain ⟨v', k1, k2⟩ := Reps.at hreps i T hi
  refine ⟨v', k1, fun j u hj => ?_⟩
  have e := k2 j u hj
  rw [← h2] at e
  have hlt : i * 5 + j < l.length * 5 := by
   rcases Nat.lt_or_ge (i * 5 + j) (l.length * 5) with h | h
   · exact h
   · rw [List.getElem?_eq_none (by simp; omega)] at e; cases e
  rw [List.getElem?_take_of_lt hlt] at e
  simp only [World.cell?, hc]
  simpa using e

/-- The example's trees in memory, as far as they are looked at. -/
def M1 (w : World) (g1 : Nat) : Prop := ∃ g2 c2 g3 c3 n4 b1 b2 b3 g4 c4, (w.cell? ⟨g1, 4, none⟩ = some (.slice (some ⟨g2, 0, none⟩) 1 c2) ∧ w.cell? ⟨g2, 4, none⟩ = some (.slice (some ⟨g3, 0, none⟩) 1 c3)) ∧
 (w.cell? ⟨g3, 0, none⟩ = some (.int .i64 8) ∧ w.cell? ⟨g3, 1, none⟩ = some (.string ⟨#[45]⟩) ∧ w.cell? ⟨g3, 2, none⟩ = some (.int .i64 n4) ∧ w.cell? ⟨g3, 3, none⟩ = some (.slice b1 b2 b3) ∧ w.cell? ⟨g3, 4, none⟩ = some (.slice (some ⟨g4, 0, none⟩) 2 c4)) ∧
 w.cell? ⟨g4, 0, none⟩ = some (.int .i64 8) ∧ w.cell? ⟨g4, 7, none⟩ = some (.int .i64 3)
def M2 (w : World) (g1 : Nat) : Prop := ∃ g2 c2 g3 c3 s4 n4 b1 b2 b3 g4 c4, (w.cell? ⟨g1, 4, none⟩ = some (.slice (some ⟨g2, 0, none⟩) 1 c2) ∧ w.cell? ⟨g2, 4, none⟩ = some (.slice (some ⟨g3, 0, none⟩) 1 c3)) ∧
 (w.cell? ⟨g3, 0, none⟩ = some (.int .i64 9) ∧ w.cell? ⟨g3, 1, none⟩ = some (.string s4) ∧ w.cell? ⟨g3, 2, none⟩ = some (.int .i64 n4) ∧ w.cell? ⟨g3, 3, none⟩ = some (.slice b1 b2 b3) ∧ w.cell? ⟨g3, 4, none⟩ = some (.slice (some ⟨g4, 0, none⟩) 2 c4)) ∧
 w.cell? ⟨g4, 5, none⟩ = some (.int .i64 10)
theorem M1.gr {g1 : Nat} (h : M1 W g1) (g : Gr (fun _ => False) W W') : M1 W' g1 := by
 obtain ⟨g2, c2, g3, c3, n4, b1, b2, b3, g4, c4, ⟨h1, h2⟩, ⟨h3, h4, h5, h6, h7⟩, h8, h9⟩ := h
 have k : ∀ {b o : Nat} {v : Value}, W.cell? ⟨b, o, none⟩ = some v → W'.cell? ⟨b, o, none⟩ = some v := fun h => cell_gr h g (fun e => e)
 exact ⟨g2, c2, g3, c3, n4, b1, b2, b3, g4, c4, ⟨k h1, k h2⟩, ⟨k h3, k h4, k h5, k h6, k h7⟩, k h8, k h9⟩
theorem M2.gr {g1 : Nat} (h : M2 W g1) (g : Gr (fun _ => False) W W') : M2 W' g1 := by
 obtain ⟨g2, c2, g3, c3, s4, n4, b1, b2, b3, g4, c4, ⟨h1, h2⟩, ⟨h3, h4, h5, h6, h7⟩, h8⟩ := h
 have k : ∀ {b o : Nat} {v : Value}, W.cell? ⟨b, o, none⟩ = some v → W'.cell? ⟨b, o, none⟩ = some v := fun h => cell_gr h g (fun e => e)
 exact ⟨g2, c2, g3, c3, s4, n4, b1, b2, b3, g4, c4, ⟨k h1, k h2⟩, ⟨k h3, k h4, k h5, k h6, k h7⟩, k h8⟩
end Go.Proofs.YtjedbfbolifjjaaGreatDoor

namespace Go.Proofs.YtjedbfbolifjjaaGreatDoor
open Go.RowKit Go.Maps
variable {W W' : World}
/-- Trees and all in them, in their order. -/
def preL : List Tr → List Tr
 | [] => []
 | .mk k s n b l :: r => .mk k s n b l :: (preL l ++ preL r)
theorem preL_nil : preL [] = [] := by rw [preL]
theorem preL_cons (k : Int) (s : ByteArray) (n : Int) (b : List Int) (l r : List Tr) : preL (.mk k s n b l :: r) = .mk k s n b l :: (preL l ++ preL r) := by rw [preL]
theorem preL_app : ∀ (a r : List Tr), preL (a ++ r) = preL a ++ preL r
 | [], r => by rw [preL_nil]; rfl
 | .mk k s n b l :: a, r => by
  rw [List.cons_append, preL_cons, preL_cons, preL_app a r]
  simp
theorem preL_pos (T : Tr) : 0 < (preL [T]).length := by
 cases T; rw [preL_cons]; simp
theorem preL_len : ∀ l : List Tr, l.length ≤ (preL l).length
 | [] => Nat.zero_le _
 | .mk k s n b l :: r => by
  have := preL_len r
  rw [preL_cons]; simp; omega
/-- The parts of a tree in memory, none or some. -/
theorem Rep.parts {A : Nat → Prop} {k : Int} {s : ByteArray} {n : Int} {b : List Int} {l : List Tr} {v : Value} (h : Rep A W (.mk k s n b l) v) :
 ∃ ba bc la lc, v = trv k s n (.slice ba b.length bc) (.slice la l.length lc) ∧ ∀ i T, l[i]? = some T → ∃ g v', la = some ⟨g, 0, none⟩ ∧ g < W.heap.size ∧ A g ∧ Rep A W T v' ∧ ∀ j u, (cellsOf v')[j]? = some u → W.cell? ⟨g, i * 5 + j, none⟩ = some u := by
 by_cases hl : 0 < l.length
 · obtain ⟨ba, bc, g, c, rfl, hA, hg, hc, hk⟩ := Rep.kids h hl
   refine ⟨ba, bc, _, c, rfl, fun i T hi => ?_⟩
   obtain ⟨v', h1, h2⟩ := hk i T hi
   exact ⟨g, v', rfl, hg, hA, h1, h2⟩
 ·
  obtain rfl : l = [] := List.eq_nil_of_length_eq_zero (by omega)
  obtain ⟨bv, lv, vs, rfl, hb, hr, hreps⟩ := h
  obtain ⟨ba, bc, rfl⟩ := hb.sv
  rcases hr with ⟨_, a, c, rfl⟩ | ⟨g, cap, cur, rfl, _⟩
  · exact ⟨ba, bc, a, c, rfl, fun i T hi => by simp at hi⟩
  · exact ⟨ba, bc, _, cap, rfl, fun i T hi => by simp at hi⟩
/-- What has been told when i parts are done. -/
def toldI (T : Tr) (l : List Tr) (m i : Nat) : List Tr := (T :: preL (l.take i)).take m
theorem toldI_step {T U : Tr} {l : List Tr} {m i : Nat} (hU : l[i]? = some U) (hlt : (toldI T l m i).length < m) : toldI T l m (i + 1) = toldI T l m i ++ (preL [U]).take (m - (toldI T l m i).length) := by
 have hfull : toldI T l m i = T :: preL (l.take i) := by
  unfold toldI at hlt ⊢
  rw [List.length_take] at hlt
  exact List.take_of_length_le (by omega)
 have htk : l.take (i + 1) = l.take i ++ [U] := by
  rw [List.take_add_one, hU]; rfl
 rw [hfull]
 unfold toldI
 rw [htk, preL_app, ← List.cons_append, List.take_append]
 congr 1
theorem toldI_end {T : Tr} {l : List Tr} {m i : Nat} (h : l.length ≤ i ∨ m ≤ (toldI T l m i).length) : toldI T l m i = (T :: preL l).take m := by
 unfold toldI at *
 rcases h with h | h
 · rw [List.take_of_length_le h]
 · rw [List.length_take] at h
   have e : l = l.take i ++ l.drop i := (List.take_append_drop i l).symm
   rw [show preL l = preL (l.take i) ++ preL (l.drop i) by rw [← preL_app, List.take_append_drop]]
   rw [← List.cons_append, List.take_append_of_le_length (by omega)]
theorem toldI_ge {T : Tr} {l : List Tr} {m i : Nat} (hi : i ≤ l.length) (hlt : (toldI T l m i).length < m) : i + 1 ≤ (toldI T l m i).length := by
 unfold toldI at *
 have := preL_len (l.take i)
 rw [List.length_take] at this hlt ⊢
 simp at hlt ⊢
 omega
theorem toldI_le (T : Tr) (l : List Tr) (m i : Nat) : (toldI T l m i).length ≤ m := by unfold toldI; rw [List.length_take]; omega
end Go.Proofs.YtjedbfbolifjjaaGreatDoor
