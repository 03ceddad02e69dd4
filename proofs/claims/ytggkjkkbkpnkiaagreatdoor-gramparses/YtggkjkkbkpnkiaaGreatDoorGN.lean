/-
  Carried over from another seat of ours (GN).
  Carried over from another seat of ours (GO).
  Carried over from another seat of ours (GP).
-/
import Derived.Test.YtggkjkkbkpnkiaaGreatDoorGM
set_option linter.unusedVariables false
set_option linter.unusedSimpArgs false
namespace Go.Proofs.YtggkjkkbkpnkiaaGreatDoor
open Go.RowKit Go.Maps

theorem sg_short : ∀ l ∈ signs, l.length ≤ 60 := by decide +kernel
/-- Tokens are short. -/
def Shrt (t : Tok) : Prop := t.s.size ≤ 60 ∧ t.b.length ≤ 16384
theorem tokV_sz {s : ByteArray} {i j : Nat} {t : Tok} (hs : s.size ≤ 16384) (hi : i < s.size) (h : tokV s i = .ok (t, j)) : Shrt t := by
  refine ⟨?_, Nat.le_trans (tokV_ok hi h).2.2.2 hs⟩
  unfold tokV at h
  split at h
  · split at h
    · cases h
    · cases h; exact Nat.zero_le _
  · split at h
    · split at h
      · cases h
      · cases h; exact Nat.zero_le _
    · split at h
      · split at h
        · cases h
        · rename_i hn
          cases h
          show (s.extract i (span inN s i)).size ≤ 60
          rw [ByteArray.size_extract]
          omega
      · split at h
        · cases h
        · rename_i l hq
          cases h
          have := sg_short l (sgn_ok hq (by omega)).1
          show (sb l).size ≤ 60
          rw [show (sb l).size = l.length by simp [sb, ByteArray.size]]; exact this
theorem scn_all {s : ByteArray} (hs : s.size ≤ 16384) : ∀ (f i : Nat) (ts l : List Tok), scn s f i ts = .ok l → (∀ t ∈ ts, Shrt t) → ts.length ≤ 4000 → (∀ t ∈ l, Shrt t) ∧ l.length ≤ 4000
  | 0, i, ts, l, h, h1, h2 => by simp [scn] at h; subst h; exact ⟨h1, h2⟩
  | f + 1, i, ts, l, h, h1, h2 => by
    rw [scn] at h
    split at h
    · rename_i hi
      split at h
      · cases h
      · rename_i hl
        cases ht : tokV s i with
        | error c => rw [ht] at h; cases h
        | ok v =>
          obtain ⟨t, j⟩ := v
          rw [ht] at h
          refine scn_all hs f _ _ l h (fun u hu => ?_) (by simp; omega)
          rcases List.mem_append.1 hu with hu | hu
          · exact h1 u hu
          · rw [List.mem_singleton] at hu; subst hu; exact tokV_sz hs hi ht
    · cases h; exact ⟨h1, h2⟩
theorem scanV_all {s : ByteArray} {l : List Tok} (h : scanV s = .ok l) : (∀ t ∈ l, Shrt t) ∧ l.length ≤ 4000 := by
  unfold scanV at h
  split at h
  · cases h
  · exact scn_all (by omega) _ _ _ _ h (fun t ht => by cases ht) (by simp)

/-- A token of Scan as it is handed to Parse. -/
def tnOf (t : Tok) : Tn := ⟨t.k, t.s, t.n, t.b, (t.at' : Int)⟩
theorem tkcs_tn : ∀ (l : List Tok) (vs : List Value), tkcs l vs = tncs (l.map tnOf) vs
  | [], vs => by cases vs <;> rfl
  | t :: l, [] => rfl
  | t :: l, v :: vs => by rw [tkcs, List.map_cons, tncs, tkcs_tn l vs]; rfl
theorem Bqs.bsk {W : World} {base : Nat} : ∀ {l : List Tok} {vs : List Value}, Bqs W base l vs → BsK (fun k => k < W.heap.size) W (l.map tnOf) vs
  | [], [], _ => trivial
  | t :: l, v :: vs, h => ⟨(rowB_own (bs := t.b) h.1.2).turn (fun k hk hl => ⟨hl, rfl⟩), Bqs.bsk h.2⟩
  | [], _ :: _, h => h.elim
  | _ :: _, [], h => h.elim
theorem Toks.rowk {W : World} {base : Nat} {l : List Tok} {vs : List Value} {a : Option Addr} {c : Nat} (h : Toks W base (.slice a l.length c) l vs) : RowK (fun k => k < W.heap.size) W (l.map tnOf) vs a c ∧ (l.map tnOf).length ≤ c := by
  have hl := h.2.len
  rcases h.1.2 with ⟨e, h0⟩ | ⟨g, cap, cur, e, hg, h2, h3, _, _, h6⟩
  · have : l = [] := List.eq_nil_of_length_eq_zero h0
    subst this
    have : vs = [] := List.eq_nil_of_length_eq_zero hl
    exact ⟨.inl ⟨rfl, this⟩, by simp⟩
  · simp only [Value.slice.injEq, true_and] at e
    obtain ⟨rfl, rfl⟩ := e
    exact ⟨.inr ⟨g, cur, rfl, (Array.getElem?_eq_some_iff.1 h2).1, h2, by rw [List.length_map, ← tkcs_tn]; exact h6⟩, by simpa using h3⟩
/-- Parse of what Scan has told. -/
theorem parseT_c (W : World) (base : Nat) (s : ByteArray) (l : List Tok) (vs : List Value) (a : Option Addr) (c : Nat) (hs : scanV s = .ok l) (h : Toks W base (.slice a l.length c) l vs) (hL : Lv W) (h4 : 4 < W.heap.size) :
    Calls Tryz.prog 7 #[.slice a l.length c] W fun e w' => EndP W e w' (parseV (l.map tnOf)) := by
  obtain ⟨h1, h2⟩ := scanV_all hs
  have := parse_c W (l.map tnOf) vs a c h.rowk.1 h.2.bsk h.rowk.2 (by rw [List.length_map]; omega)
    (fun t ht => by obtain ⟨u, hu, rfl⟩ := List.mem_map.1 ht; have : u.s.size ≤ 60 := (h1 u hu).1; show u.s.size ≤ _; omega)
    (fun t ht => by obtain ⟨u, hu, rfl⟩ := List.mem_map.1 ht; have : u.b.length ≤ 16384 := (h1 u hu).2; show u.b.length ≤ _; omega) hL h4
  rw [List.length_map] at this
  exact this
/-- A text's tree, or what is wrong. -/
def textV (s : ByteArray) : Except (Nat × Int) Tr := match scanV s with
  | .error (i, c) => .error (0, c)
  | .ok l => parseV (l.map tnOf)
theorem scn_err {s : ByteArray} : ∀ (f i : Nat) (ts : List Tok) (k : Nat) (c : Int), scn s f i ts = .error (k, c) → c ≠ 0
  | 0, i, ts, k, c, h => by simp [scn] at h
  | f + 1, i, ts, k, c, h => by
    rw [scn] at h
    split at h
    · split at h
      · cases h; decide
      · cases ht : tokV s i with
        | error c' => rw [ht] at h; cases h; have := tokV_err ht; omega
        | ok v => obtain ⟨t, j⟩ := v; rw [ht] at h; exact scn_err f _ _ k c h
    · cases h
theorem scanV_err {s : ByteArray} {k : Nat} {c : Int} (h : scanV s = .error (k, c)) : c ≠ 0 := by
  unfold scanV at h
  split at h
  · cases h; decide
  · exact scn_err _ _ _ _ _ h
end Go.Proofs.YtggkjkkbkpnkiaaGreatDoor



namespace Go.Proofs.YtggkjkkbkpnkiaaGreatDoor
open Go.RowKit Go.Maps
variable {W W' : World}

theorem Reps.at {A : Nat → Prop} : ∀ {l : List Tr} {vs : List Value}, Reps A W l vs → ∀ (i : Nat) (T : Tr), l[i]? = some T → ∃ v', Rep A W T v' ∧ ∀ j u, (cellsOf v')[j]? = some u → (vs.flatMap cellsOf)[i * 5 + j]? = some u
  | [], vs, k, i, T, h => by simp at h
  | t :: l, vs, k, 0, T, h => by
    obtain ⟨v', r, rfl, k1, k2⟩ := k
    simp at h; subst h
    refine ⟨v', k1, fun j u hj => ?_⟩
    rw [List.flatMap_cons, Nat.zero_mul, Nat.zero_add, List.getElem?_append_left (List.getElem?_eq_some_iff.1 hj).1]
    exact hj
  | t :: l, vs, k, i + 1, T, h => by
    obtain ⟨v', r, rfl, k1, k2⟩ := k
    obtain ⟨v2, h1, h2⟩ := Reps.at k2 i T (by simpa using h)
    refine ⟨v2, h1, fun j u hj => ?_⟩
    obtain ⟨_, _, _, _, _, _, _, _, _, rfl⟩ := Rep.agg k1
    rw [List.flatMap_cons, List.getElem?_append_right (by simp [cellsOf]; omega), ← h2 j u hj]
    congr 1
    simp [cellsOf]
    omega
theorem Rep.kids {A : Nat → Prop} {k : Int} {s : ByteArray} {n : Int} {b : List Int} {l : List Tr} {v : Value} (h : Rep A W (.mk k s n b l) v) (hl : 0 < l.length) :
    ∃ ba bc g c, v = trv k s n (.slice ba b.length bc) (.slice (some ⟨g, 0, none⟩) l.length c) ∧ A g ∧ g < W.heap.size ∧ l.length ≤ c ∧ ∀ i T, l[i]? = some T → ∃ v', Rep A W T v' ∧ ∀ j u, (cellsOf v')[j]? = some u → W.cell? ⟨g, i * 5 + j, none⟩ = some u := by
  obtain ⟨bv, lv, vs, rfl, hb, hr, hreps⟩ := h
  obtain ⟨ba, bc, rfl⟩ := hb.sv
  rcases hr with ⟨h0, _⟩ | ⟨g, cap, cur, rfl, hg, hc, h1, h2⟩
  · omega
  · refine ⟨ba, bc, g, cap, rfl, hg, (Array.getElem?_eq_some_iff.1 hc).1, h1, fun i T hi => ?_⟩
    obtain ⟨v', k1, k2⟩ := Reps.at hreps i T hi
    refine ⟨v', k1, fun j u hj => ?_⟩
    have e := k2 j u hj
    rw [← h2] at e
    have hlt : i * 5 + j < l.length * 5 := by
      rcases Nat.lt_or_ge (i * 5 + j) (l.length * 5) with h | h
      · exact h
      · rw [List.getElem?_eq_none (by simp; omega)] at e; cases e
    rw [List.getElem?_take_of_lt hlt] at e
    simp only [World.cell?, hc]
    simpa using e

/-- The example's trees in memory, as far as they are looked at. -/
def M1 (w : World) (g1 : Nat) : Prop := ∃ g2 c2 g3 c3 n4 b1 b2 b3 g4 c4, (w.cell? ⟨g1, 4, none⟩ = some (.slice (some ⟨g2, 0, none⟩) 1 c2) ∧ w.cell? ⟨g2, 4, none⟩ = some (.slice (some ⟨g3, 0, none⟩) 1 c3)) ∧
  (w.cell? ⟨g3, 0, none⟩ = some (.int .i64 8) ∧ w.cell? ⟨g3, 1, none⟩ = some (.string ⟨#[45]⟩) ∧ w.cell? ⟨g3, 2, none⟩ = some (.int .i64 n4) ∧ w.cell? ⟨g3, 3, none⟩ = some (.slice b1 b2 b3) ∧ w.cell? ⟨g3, 4, none⟩ = some (.slice (some ⟨g4, 0, none⟩) 2 c4)) ∧
  w.cell? ⟨g4, 0, none⟩ = some (.int .i64 8) ∧ w.cell? ⟨g4, 7, none⟩ = some (.int .i64 3)
def M2 (w : World) (g1 : Nat) : Prop := ∃ g2 c2 g3 c3 s4 n4 b1 b2 b3 g4 c4, (w.cell? ⟨g1, 4, none⟩ = some (.slice (some ⟨g2, 0, none⟩) 1 c2) ∧ w.cell? ⟨g2, 4, none⟩ = some (.slice (some ⟨g3, 0, none⟩) 1 c3)) ∧
  (w.cell? ⟨g3, 0, none⟩ = some (.int .i64 9) ∧ w.cell? ⟨g3, 1, none⟩ = some (.string s4) ∧ w.cell? ⟨g3, 2, none⟩ = some (.int .i64 n4) ∧ w.cell? ⟨g3, 3, none⟩ = some (.slice b1 b2 b3) ∧ w.cell? ⟨g3, 4, none⟩ = some (.slice (some ⟨g4, 0, none⟩) 2 c4)) ∧
  w.cell? ⟨g4, 5, none⟩ = some (.int .i64 10)
theorem M1.gr {g1 : Nat} (h : M1 W g1) (g : Gr (fun _ => False) W W') : M1 W' g1 := by
  obtain ⟨g2, c2, g3, c3, n4, b1, b2, b3, g4, c4, ⟨h1, h2⟩, ⟨h3, h4, h5, h6, h7⟩, h8, h9⟩ := h
  have k : ∀ {b o : Nat} {v : Value}, W.cell? ⟨b, o, none⟩ = some v → W'.cell? ⟨b, o, none⟩ = some v := fun h => cell_gr h g (fun e => e)
  exact ⟨g2, c2, g3, c3, n4, b1, b2, b3, g4, c4, ⟨k h1, k h2⟩, ⟨k h3, k h4, k h5, k h6, k h7⟩, k h8, k h9⟩
theorem M2.gr {g1 : Nat} (h : M2 W g1) (g : Gr (fun _ => False) W W') : M2 W' g1 := by
  obtain ⟨g2, c2, g3, c3, s4, n4, b1, b2, b3, g4, c4, ⟨h1, h2⟩, ⟨h3, h4, h5, h6, h7⟩, h8⟩ := h
  have k : ∀ {b o : Nat} {v : Value}, W.cell? ⟨b, o, none⟩ = some v → W'.cell? ⟨b, o, none⟩ = some v := fun h => cell_gr h g (fun e => e)
  exact ⟨g2, c2, g3, c3, s4, n4, b1, b2, b3, g4, c4, ⟨k h1, k h2⟩, ⟨k h3, k h4, k h5, k h6, k h7⟩, k h8⟩
end Go.Proofs.YtggkjkkbkpnkiaaGreatDoor



namespace Go.Proofs.YtggkjkkbkpnkiaaGreatDoor
open Go.RowKit Go.Maps
variable {W W' : World}

/-- Trees and all in them, in their order. -/
def preL : List Tr → List Tr
  | [] => []
  | .mk k s n b l :: r => .mk k s n b l :: (preL l ++ preL r)
theorem preL_nil : preL [] = [] := by rw [preL]
theorem preL_cons (k : Int) (s : ByteArray) (n : Int) (b : List Int) (l r : List Tr) : preL (.mk k s n b l :: r) = .mk k s n b l :: (preL l ++ preL r) := by rw [preL]
theorem preL_app : ∀ (a r : List Tr), preL (a ++ r) = preL a ++ preL r
  | [], r => by rw [preL_nil]; rfl
  | .mk k s n b l :: a, r => by
    rw [List.cons_append, preL_cons, preL_cons, preL_app a r]
    simp
theorem preL_pos (T : Tr) : 0 < (preL [T]).length := by
  cases T; rw [preL_cons]; simp
theorem preL_len : ∀ l : List Tr, l.length ≤ (preL l).length
  | [] => Nat.zero_le _
  | .mk k s n b l :: r => by
    have := preL_len r
    rw [preL_cons]; simp; omega
/-- The parts of a tree in memory, none or some. -/
theorem Rep.parts {A : Nat → Prop} {k : Int} {s : ByteArray} {n : Int} {b : List Int} {l : List Tr} {v : Value} (h : Rep A W (.mk k s n b l) v) :
    ∃ ba bc la lc, v = trv k s n (.slice ba b.length bc) (.slice la l.length lc) ∧ ∀ i T, l[i]? = some T → ∃ g v', la = some ⟨g, 0, none⟩ ∧ g < W.heap.size ∧ A g ∧ Rep A W T v' ∧ ∀ j u, (cellsOf v')[j]? = some u → W.cell? ⟨g, i * 5 + j, none⟩ = some u := by
  by_cases hl : 0 < l.length
  · obtain ⟨ba, bc, g, c, rfl, hA, hg, hc, hk⟩ := Rep.kids h hl
    refine ⟨ba, bc, _, c, rfl, fun i T hi => ?_⟩
    obtain ⟨v', h1, h2⟩ := hk i T hi
    exact ⟨g, v', rfl, hg, hA, h1, h2⟩
  · obtain rfl : l = [] := List.eq_nil_of_length_eq_zero (by omega)
    obtain ⟨bv, lv, vs, rfl, hb, hr, hreps⟩ := h
    obtain ⟨ba, bc, rfl⟩ := hb.sv
    rcases hr with ⟨_, a, c, rfl⟩ | ⟨g, cap, cur, rfl, _⟩
    · exact ⟨ba, bc, a, c, rfl, fun i T hi => by simp at hi⟩
    · exact ⟨ba, bc, _, cap, rfl, fun i T hi => by simp at hi⟩
/-- What All answers of a tree. -/
def AllOk (T : Tr) : Prop := ∀ (W : World) (N : Nat) (v : Value) (m : Nat), Rep (fun k => k < N) W T v → N ≤ W.heap.size → 1 ≤ m → m ≤ 30000 →
  Calls Tryz.prog 14 #[v, .int .i64 (m : Int)] W fun e w' => ∃ v' us, e = .returned v' ∧ w'.ownsRow W.heap.size 30 5 v' ((preL [T]).take m).length (us.flatMap cellsOf) ∧ Reps (fun k => k < N) w' ((preL [T]).take m) us ∧ Gr (fun _ => False) W w'
/-- What has been told when i parts are done. -/
def toldI (T : Tr) (l : List Tr) (m i : Nat) : List Tr := (T :: preL (l.take i)).take m
theorem toldI_step {T U : Tr} {l : List Tr} {m i : Nat} (hU : l[i]? = some U) (hlt : (toldI T l m i).length < m) : toldI T l m (i + 1) = toldI T l m i ++ (preL [U]).take (m - (toldI T l m i).length) := by
  have hfull : toldI T l m i = T :: preL (l.take i) := by
    unfold toldI at hlt ⊢
    rw [List.length_take] at hlt
    exact List.take_of_length_le (by omega)
  have htk : l.take (i + 1) = l.take i ++ [U] := by
    rw [List.take_add_one, hU]; rfl
  rw [hfull]
  unfold toldI
  rw [htk, preL_app, ← List.cons_append, List.take_append]
  congr 1
theorem toldI_end {T : Tr} {l : List Tr} {m i : Nat} (h : l.length ≤ i ∨ m ≤ (toldI T l m i).length) : toldI T l m i = (T :: preL l).take m := by
  unfold toldI at *
  rcases h with h | h
  · rw [List.take_of_length_le h]
  · rw [List.length_take] at h
    have e : l = l.take i ++ l.drop i := (List.take_append_drop i l).symm
    rw [show preL l = preL (l.take i) ++ preL (l.drop i) by rw [← preL_app, List.take_append_drop]]
    rw [← List.cons_append, List.take_append_of_le_length (by omega)]
theorem toldI_ge {T : Tr} {l : List Tr} {m i : Nat} (hi : i ≤ l.length) (hlt : (toldI T l m i).length < m) : i + 1 ≤ (toldI T l m i).length := by
  unfold toldI at *
  have := preL_len (l.take i)
  rw [List.length_take] at this hlt ⊢
  simp at hlt ⊢
  omega
theorem toldI_le (T : Tr) (l : List Tr) (m i : Nat) : (toldI T l m i).length ≤ m := by unfold toldI; rw [List.length_take]; omega
theorem toldI_pos (T : Tr) (l : List Tr) (m i : Nat) (hm : 1 ≤ m) : 0 < (toldI T l m i).length := by unfold toldI; rw [List.length_take]; simp; omega
set_option maxRecDepth 100000 in
set_option maxHeartbeats 1600000 in
theorem all_node (k : Int) (s : ByteArray) (n : Int) (b : List Int) (l : List Tr) (ih : ∀ T ∈ l, AllOk T) : AllOk (.mk k s n b l) := by
  intro W N v m hRep hN hm1 hm2
  obtain ⟨ba, bc, la, lc, rfl, hk⟩ := hRep.parts
  obtain ⟨i0, hi0, hzz, hz1, hz2⟩ := info_parts info25
  have hmI : (m : Int) ≤ 30000 := by omega
  have hmP : ¬ (m : Int) ≤ 0 := by omega
  have hmD : decide ((m : Int) ≤ 0) = false := by simp; omega
  have e0' : (preL [Tr.mk k s n b l]).take m = toldI (.mk k s n b l) l m l.length := by
    unfold toldI
    rw [preL_cons, List.take_length, preL_nil, List.append_nil]
  rw [e0']
  have hR0 : Reps (fun z => z < N) W (toldI (.mk k s n b l) l m 0) [trv k s n (.slice ba b.length bc) (.slice la l.length lc)] := by
    have : toldI (.mk k s n b l) l m 0 = [.mk k s n b l] := by
      unfold toldI
      rw [List.take_zero, preL_nil]
      exact List.take_of_length_le (by simpa using hm1)
    rw [this]
    exact ⟨_, [], rfl, hRep, rfl⟩
  have hlen0 : Hid ((toldI (.mk k s n b l) l m 0).length = 1) := by
    show _ = 1
    unfold toldI
    rw [List.take_zero, preL_nil, List.length_take]
    simp; omega
  have hlm := toldI_le (.mk k s n b l) l m
  have hge : ∀ i : Nat, i ≤ l.length → (toldI (.mk k s n b l) l m i).length < m → i + 1 ≤ (toldI (.mk k s n b l) l m i).length := fun i h1 h2 => toldI_ge h1 h2
  have hst : ∀ (i : Nat) (U : Tr), l[i]? = some U → (toldI (.mk k s n b l) l m i).length < m → toldI (.mk k s n b l) l m (i + 1) = toldI (.mk k s n b l) l m i ++ (preL [U]).take (m - (toldI (.mk k s n b l) l m i).length) := fun i U h1 h2 => toldI_step h1 h2
  have hen : ∀ i : Nat, (l.length ≤ i ∨ m ≤ (toldI (.mk k s n b l) l m i).length) → toldI (.mk k s n b l) l m i = (Tr.mk k s n b l :: preL l).take m := fun i h => toldI_end h
  generalize toldI (.mk k s n b l) l m = tI at *
  have gB := Gr.alloc W (.cells #[.int .i64 k, .string s, .int .i64 n, .slice ba b.length bc, .slice la l.length lc] 30) (fun _ => False)
  have hB := heap_alloc_new W (.cells #[.int .i64 k, .string s, .int .i64 n, .slice ba b.length bc, .slice la l.length lc] 30)
  have hzB : (W.alloc (.cells #[.int .i64 k, .string s, .int .i64 n, .slice ba b.length bc, .slice la l.length lc] 30)).heap.size = W.heap.size + 1 := by simp
  have hrow1 := fun W1 (hb : W.heap.size + 1 ≤ W1.heap.size) => World.ownsRow_lit (base := W.heap.size + 1) (e := 30) (size := 5) W1 #[.int .i64 k, .string s, .int .i64 n, .slice ba b.length bc, .slice la l.length lc] 1 hb (by unfold maxLen; omega) rfl
  go_enter Tryz.func14, Tryz.ntmps14
  go_wp2_with fail
  generalize W.alloc _ = WB at gB hB hzB ⊢
  have hr1 := hrow1 WB (by omega)
  have gR := Gr.alloc WB (.cells #[.int .i64 k, .string s, .int .i64 n, .slice ba b.length bc, .slice la l.length lc] 30) (fun _ => False)
  rw [hzB] at hr1
  generalize WB.alloc _ = WR at hr1 gR ⊢
  have hB1 := gR.keep hB (fun e => e)
  obtain ⟨tb, htb⟩ : ∃ tb, W.heap.size = tb := ⟨_, rfl⟩
  rw [htb] at hB1 hr1 ⊢
  have gW := gB.trans gR
  have hRR : Reps (fun z => z < N) WR (tI 0) _ := hR0.turn (fun z hz hl => ⟨hz, gW.block z hl (fun e => e)⟩)
  have hk' : ∀ (i : Nat) (T : Tr), l[i]? = some T → ∃ g v', la = some ⟨g, 0, none⟩ ∧ g < W.heap.size ∧ g < N ∧ Rep (fun z => z < N) W T v' ∧ ∀ j u, (cellsOf v')[j]? = some u → W.cell? ⟨g, i * 5 + j, none⟩ = some u := hk
  replace hk' := Lib.hid hk'
  replace ih := Lib.hid ih
  replace hlm := Lib.hid hlm
  replace hge := Lib.hid hge
  replace hst := Lib.hid hst
  replace hen := Lib.hid hen
  replace hm1 := Lib.hid hm1
  replace hm2 := Lib.hid hm2
  clear hk hR0 hrow1 gB gR hB hzB e0'
  go_loopw [5, 6] (fun u5 u6 wr => ∃ (i : Nat) (us : List Value), i ≤ l.length ∧ u6 = .int .i64 (i : Int) ∧ wr.ownsRow (tb + 1) 30 5 u5 (tI i).length (us.flatMap cellsOf) ∧ Hid (Reps (fun z => z < N) wr (tI i) us) ∧ wr.heap[tb]? = some (.cells #[.int .i64 k, .string s, .int .i64 n, .slice ba b.length bc, .slice la l.length lc] 30 (0, 0)) ∧ Gr (fun _ => False) W wr) (fun _ u6 _ => l.length - (intOf u6).toNat)
  case atStart => exact ⟨0, _, Nat.zero_le _, rfl, by rw [hlen0.out]; exact hr1, hRR, hB1, gW⟩
  case round =>
    obtain ⟨i, us, hi, rfl, hrow, hReps, hBr, hG⟩ := hrel
    obtain ⟨⟨m0, m1', m2, m3, m4⟩, _⟩ := five_cells hBr
    obtain ⟨oa, oc, rfl⟩ := ownsRow_sv hrow
    have htw : tb < wr.heap.size := (Array.getElem?_eq_some_iff.1 hBr).1
    by_cases hlt : i < l.length
    · have h1 : (i : Int) < (l.length : Int) := by omega
      by_cases hol : (tI i).length < m
      · have h2 : ((tI i).length : Int) < (m : Int) := by omega
        have hiI : (i : Int) ≤ 30000 := by have := hge.out i hi hol; omega
        have hTi : l[i]? = some l[i] := List.getElem?_eq_getElem hlt
        obtain ⟨g, v', rfl, hgl, hgN, hRi, hci⟩ := hk'.out i _ hTi
        have hAi := ih.out l[i] (List.getElem_mem hlt)
        have Hst := Lib.hid (hst.out i _ hTi hol)
        generalize l[i] = U at hRi hAi Hst
        obtain ⟨tk, tt, tn, a1, n1, c1, a2, n2, c2, rfl⟩ := hRi.agg
        have k0 : wr.cell? ⟨g, i * 5, none⟩ = some (.int .i64 tk) := cell_gr (hci 0 _ rfl) hG (fun e => e)
        have k1 := cell_gr (hci 1 _ rfl) hG (fun e => e)
        have k2 := cell_gr (hci 2 _ rfl) hG (fun e => e)
        have k3 := cell_gr (hci 3 _ rfl) hG (fun e => e)
        have k4 := cell_gr (hci 4 _ rfl) hG (fun e => e)
        have hRi' : Rep (fun z => z < N) wr U (trv tk tt tn (.slice a1 n1 c1) (.slice a2 n2 c2)) := hRi.turn (fun z hz hl => ⟨hz, hG.block z hl (fun e => e)⟩)
        have hsG := hG.size
        have hcall := hAi wr N _ (m - (tI i).length) hRi' (by omega) (by omega) (by have := hm2.out; omega)
        have hsub : ((m - (tI i).length : Nat) : Int) = (m : Int) - ((tI i).length : Int) := by omega
        rw [hsub] at hcall
        have hpos : Hid (0 < ((preL [U]).take (m - (tI i).length)).length) := by
          show 0 < _
          have := preL_pos U
          rw [List.length_take]; omega
        have hble : Hid (((preL [U]).take (m - (tI i).length)).length + (tI i).length ≤ 30000) := by
          show _ ≤ _
          have := hm2.out
          rw [List.length_take]; omega
        generalize (preL [U]).take (m - (tI i).length) = Y at hcall Hst hpos hble
        replace hcall := Lib.hid hcall
        have hgw : g < wr.heap.size := by omega
        have hTt : Hid (∀ z, z < N → z < tb + 1) := fun z hz => by omega
        clear hAi hRi hci hTi hsub
        go_wp2_with fail
        refine hcall.out.mono ?_
        rintro e w4 ⟨vY, ys, rfl, rowY, repY, g4⟩
        obtain ⟨gY, cY, rfl, hcY⟩ := row_cells rowY hpos.out
        have hrow4 := ownsRow_gr hrow g4 (fun _ _ e => e)
        have hcl := repY.cells
        have hone := repY.one
        have hs4 := g4.size
        have hB4 := g4.keep hBr (fun e => e)
        go_wp2_with (first
          | (at_builtin; refine wpList_own2 _ rfl 28 _ _ rfl (tb + 1) 30 i0 (trv 0 e0 0 nl nl) 5 80 Tryz.underlying28 hi0 hzz hz1 hz2 rfl (by decide) (.slice oa (tI i).length oc) (tI i).length (us.flatMap cellsOf) ⟨gY, 0, none⟩ Y.length cY (ys.flatMap cellsOf) rfl rfl hrow4 hcl hcY hone (by unfold maxLen; have := hble.out; omega) (by have := hble.out; omega) (by omega) ?_; intro v5 w5 hrow5 hgr5 hloc5; obtain ⟨a5, cap5, rfl⟩ := ownsRow_sv hrow5))
        have G5 : Gr (fun z => tb + 1 ≤ z) w4 w5 := Gr.of_grown hgr5 (fun z e => (ownsRow_lt hrow4 z e).1)
        have GW : Gr (fun _ => False) W w5 := (hG.trans g4).trans' G5 (fun k hk e => by omega)
        have hB5 := G5.keep hB4 (by omega)
        have R1 : Reps (fun z => z < N) w5 (tI i) us := hReps.out.turn (fun z hz hl => ⟨hz, (G5.block z (by omega) (by omega)).trans (g4.block z hl (fun e => e))⟩)
        have R2 : Reps (fun z => z < N) w5 Y ys := repY.turn (fun z hz hl => ⟨hz, G5.block z hl (by omega)⟩)
        have R5 : Hid (Reps (fun z => z < N) w5 (tI (i + 1)) (us ++ ys)) := by show Reps _ _ _ _; rw [Hst.out]; exact R2.app R1
        have hrow6 : w5.ownsRow (tb + 1) 30 5 (.slice a5 ((tI i).length + Y.length) cap5) (tI (i + 1)).length ((us ++ ys).flatMap cellsOf) := by
          rw [Hst.out, List.flatMap_append, List.length_append]; exact hrow5
        clear hrow5 hgr5 hloc5 hcl hone hcY rowY repY hrow4 R1 R2 hB4 k0 k1 k2 k3 k4 m0 m1' m2 m3 m4 hcall
        go_wp2_with fail
        exact ⟨⟨i + 1, us ++ ys, hlt, by go_num, hrow6, R5, hB5, GW⟩, by simp [intOf]; omega⟩
      · have h2 : decide (((tI i).length : Int) < (m : Int)) = false := by simp; omega
        have e : Hid (tI i = tI l.length) := (hen.out i (.inr (by omega))).trans (hen.out l.length (.inl (Nat.le_refl _))).symm
        go_wp2_with fail
        go_ret
        refine ⟨_, us, rfl, ?_, ?_, hG⟩
        · rw [← e.out]; exact ownsRow_base hrow (by omega)
        · rw [← e.out]; exact hReps.out
    · have h1 : decide ((i : Int) < (l.length : Int)) = false := by simp; omega
      obtain rfl : i = l.length := by omega
      go_wp2_with fail
      go_ret
      exact ⟨_, us, rfl, ownsRow_base hrow (by omega), hReps.out, hG⟩
theorem all_c (T : Tr) : AllOk T :=
  Tr.rec (motive_1 := fun T => AllOk T) (motive_2 := fun l => ∀ T ∈ l, AllOk T)
    (fun k s n b l ih => all_node k s n b l ih) (fun T h => by cases h)
    (fun T l h1 h2 U hU => by
      rcases List.mem_cons.1 hU with rfl | hU
      · exact h1
      · exact h2 U hU) T
end Go.Proofs.YtggkjkkbkpnkiaaGreatDoor


