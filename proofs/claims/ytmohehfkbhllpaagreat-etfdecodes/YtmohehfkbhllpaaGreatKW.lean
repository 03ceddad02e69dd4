/-
  Carried over from another seat of ours (KW).
  Carried over from another seat of ours (KX).
-/
import Derived.Test.YtmohehfkbhllpaaGreatKV
set_option linter.unusedVariables false
set_option linter.unusedSimpArgs false
namespace Go.Proofs.YtmohehfkbhllpaaGreat
open Go.RowKit Go.Maps
variable {S S' Z F F0 : Nat → Prop} {W W0 W1 W' : World}
theorem hand_leaf {base X : Nat} {F B : Nat → Prop} {ov : Value} {w : World} {k n : Int} {x y : Nat} {s : ByteArray} {a c d : Int} (h : Bx w X k n x y s a c d nl nl) : Hand base F B ov w X (.mk { k := k, n := n, x := x, y := y, s := s, a := a, c := c, d := d } [] []) :=
  ⟨fun _ => False, _, _, _, _, _, _, _, _, _, _, _, _, _, _, h, ⟨_, _, [], rfl, .inl ⟨rfl, _, _, rfl⟩, .inl ⟨rfl, _, _, rfl⟩, rfl⟩, fun _ e => e.elim⟩
set_option maxRecDepth 20000 in
set_option maxHeartbeats 1600000 in
theorem value_l (Y : Code) (hY : Lab 1 (.seq .skip Y)) (Q : Exit → Act → World → Prop) (b tb R X n : Nat) (m : List Int) (l : List ByteArray) (ov : Value) (ns : List Ne) (B : Nat → Prop) (tk tn : Int) (tx ty : Nat) (ts : ByteArray) (ta tc td : Int) (ok : Bool) (c : Int) (hc : ok = false → ¬ c = 0)
    (h2 : ok = true → ∀ X2, Lab 2 (.seq .skip X2) → ∀ a w, Jc Z F0 W0 b tb R X F n m l ov ns B a w → Hand (W0.heap.size + 2) F B ov w X (.mk { k := tk, n := tn, x := tx, y := ty, s := ts, a := ta, c := tc, d := td } [] []) → X2.wp Tryz.prog Q a w)
    (hpan : ok = false → ∀ a w, a.defers = [] → Gr (fun k => k = b ∨ F0 k) W0 w → Q (.panic [{ v := .iface 32 (.int .i64 73), recovered := false }]) a w)
    (hck : ∀ w, Calls Tryz.prog 19 #[lf tk tn tx ty ts ta tc td] w fun e w' => e = .returned (.int .i64 (if ok = true then 0 else c)) ∧ Gr (fun _ => False) w w')
    (a : Act) (w : World) (hJ : Jc Z F0 W0 b tb R X F n m l ov ns B a w) (hx : Bx w X tk tn tx ty ts ta tc td nl nl) : Y.wp Tryz.prog Q a w := by
  unfold Lab at hY
  simp only [Tryz.f13, scopeOf, findLabel, Option.getD] at hY
  cases hY
  generalize hX2 : Code.seq (Code.label 2) _ = X2
  have hL2 : Hid (∀ Z, Code.seq (Code.label 2) Z = X2 → Lab 2 (.seq .skip Z)) := Lib.hid (by
    intro Z hZ
    rw [← hX2] at hZ
    cases hZ
    unfold Lab
    simp only [Tryz.f13, scopeOf, findLabel, Option.getD]
    rfl)
  have HX := Lib.hid hX2
  have HJ := Lib.hid hJ
  have HT := Lib.hid hx
  obtain ⟨x, rfl⟩ := hJ.fr.lit
  have hxf := hx.facts
  have hck' := Lib.hid (hck w)
  have hpan := Lib.hid hpan
  have h2 := Lib.hid h2
  clear hJ hck hX2 hx
  cases ok with
  | true =>
    go_wp2_with fail
    refine hck'.out.mono ?_
    rintro e w' ⟨rfl, g⟩
    go_wp2_with fail
    have hX := HX.out
    rw [← hX]
    refine wp_seq (wp_label ?_)
    exact h2.out trivial _ (hL2.out _ hX) _ _ (HJ.out.g0 ⟨rfl, rfl, rfl, rfl, rfl, rfl⟩ g) (hand_leaf (HT.out.gr g (fun e => e)))
  | false =>
    have hc0 := hc rfl
    go_wp2_with fail
    refine hck'.out.mono ?_
    rintro e w' ⟨rfl, g⟩
    go_wp2_with fail
    exact hpan.out trivial _ _ rfl (HJ.out.gr.trans' g (fun _ _ e => e.elim))
end Go.Proofs.YtmohehfkbhllpaaGreat


namespace Go.Proofs.YtmohehfkbhllpaaGreat

/-- What comes of it where a part is to begin. -/
def beg (ns : List Ne) (m : List Int) (n : Nat) (l : List ByteArray) : Except Int Tm := match ptq (24 - ns.length) m n l with
  | .error e => .error e
  | .ok (T, m', n', l') => fin7 ns T m' n' l'
/-- What comes of it where the innermost nest is looked at. -/
def nxt (e : Ne) (ns : List Ne) (m : List Int) (n : Nat) (l : List ByteArray) : Except Int Tm := match elq (ptq (24 - (ns.length + 1))) (e.w - e.ts.length) m n l e.ts with
  | .error c => .error c
  | .ok (ts, m', n', l') => fin7 ns (.mk { k := e.k } [] ts) m' n' l'
theorem fin_nxt (e : Ne) (ns : List Ne) (T : Tm) (m : List Int) (n : Nat) (l : List ByteArray) : fin7 (e :: ns) T m n l = nxt ⟨e.k, e.w, e.ts ++ [T]⟩ ns m n l := by
  simp only [fin7, nxt, List.length_append, List.length_cons, List.length_nil, Nat.zero_add]
  generalize elq _ _ _ _ _ _ = q
  rcases q with _ | ⟨_, _, _, _⟩ <;> rfl
theorem nxt_beg {e : Ne} {ns : List Ne} {m : List Int} {n : Nat} {l : List ByteArray} (h : e.ts.length < e.w) : nxt e ns m n l = beg (e :: ns) m n l := by
  obtain ⟨u, hu⟩ : ∃ u, e.w - e.ts.length = u + 1 := ⟨e.w - e.ts.length - 1, by omega⟩
  have hu2 : e.w - (e.ts.length + 1) = u := by omega
  simp only [nxt, beg, hu, elq, List.length_cons]
  cases ptq (24 - (ns.length + 1)) m n l with
  | error c => rfl
  | ok x =>
    obtain ⟨T, m', n', l'⟩ := x
    simp only [fin7, hu2]
    generalize elq _ _ _ _ _ _ = q
    rcases q with _ | ⟨_, _, _, _⟩ <;> rfl
theorem nxt_fin {e : Ne} {ns : List Ne} {m : List Int} {n : Nat} {l : List ByteArray} (h : ¬ e.ts.length < e.w) : nxt e ns m n l = fin7 ns (.mk { k := e.k } [] e.ts) m n l := by
  have hu : e.w - e.ts.length = 0 := by omega
  simp only [nxt, hu, elq]
theorem beg_cons {ns : List Ne} {k : Int} {m : List Int} {n : Nat} {l : List ByteArray} (h : ns.length < 24) (hn : n < 4096) : beg ns (k :: m) n l = match knq (ptq (24 - (ns.length + 1))) k m (n + 1) l with
    | .error e => .error e
    | .ok (T, m', n', l') => fin7 ns T m' n' l' := by
  have e : 24 - ns.length = 24 - (ns.length + 1) + 1 := by omega
  simp only [beg]
  rw [e]
  simp only [ptq]
  rw [if_neg (by omega)]
theorem beg_no {ns : List Ne} {m : List Int} {n : Nat} {l : List ByteArray} (h : ns.length ≤ 24) (hn : n ≤ 4096) (hm : m = [] ∨ ns.length = 24 ∨ n = 4096) : ∃ c, ptq (24 - ns.length) m n l = .error c := by
  by_cases h24 : ns.length = 24
  · rw [h24]; exact ⟨20, rfl⟩
  · have e : 24 - ns.length = 24 - (ns.length + 1) + 1 := by omega
    rw [e]
    simp only [ptq]
    by_cases h4 : 4096 ≤ n
    · rw [if_pos h4]; exact ⟨21, rfl⟩
    · rw [if_neg h4]
      rcases hm with rfl | h' | h'
      · exact ⟨72, rfl⟩
      · omega
      · omega
theorem nmb_len : ∀ (f k a : Nat) (m : List Int) (u : Nat) (r : List Int), nmb f k a m = .ok (u, r) → r.length ≤ m.length
  | 0, k, a, m, u, r, h => by simp [nmb] at h; rw [h.2]; exact Nat.le_refl _
  | f + 1, k, a, [], u, r, h => by simp [nmb] at h
  | f + 1, k, a, c :: m, u, r, h => by
    rw [nmb] at h
    split at h
    · cases h
    · split at h
      · cases h; simp
      · have := nmb_len f _ _ m u r h
        simp only [List.length_cons]
        omega
theorem idq_len {m m' : List Int} {c : Int} {t u : Nat} (h : idq m = .ok (c, t, u, m')) : m'.length ≤ m.length := by
  unfold idq at h
  split at h
  · cases h
  · split at h
    · cases h
    · rename_i hr
      split at h
      · cases h
      · split at h
        · cases h
        · rename_i hr2
          cases h
          have := nmb_len _ _ _ _ _ _ hr
          have := nmb_len _ _ _ _ _ _ hr2
          simp only [List.length_cons]
          omega
theorem rwq_len {m : List Int} {n : Nat} {bs m' : List Int} {n' : Nat} (h : rwq m n = .ok (bs, m', n')) : m'.length ≤ m.length ∧ n ≤ n' := by
  unfold rwq at h
  split at h
  · cases h
  · rename_i hr
    split at h
    · cases h
    · split at h
      · cases h
      · cases h
        have := nmb_len _ _ _ _ _ _ hr
        simp only [List.length_drop]
        omega
theorem putL_len (l : List ByteArray) (s : ByteArray) : (putL l s).length ≤ l.length + 1 := by
  unfold putL
  split
  · split
    · omega
    · split
      · omega
      · simp
  · omega
theorem nwq_len {m m' : List Int} {l l' : List ByteArray} (h : nwq m l = .ok (m', l')) : m'.length ≤ m.length ∧ l'.length ≤ l.length + 1 := by
  unfold nwq at h
  split at h
  · cases h
  · split at h
    · cases h
    · split at h
      · cases h
      · split at h
        · cases h
        · split at h
          · cases h
            refine ⟨?_, putL_len _ _⟩
            simp only [List.length_drop, List.length_cons]
            omega
          · cases h
theorem nmq_len {m m' : List Int} {l l' : List ByteArray} {s : ByteArray} (h : nmq m l = .ok (s, m', l')) : m'.length ≤ m.length ∧ l'.length ≤ l.length + 1 := by
  unfold nmq at h
  split at h
  · cases h
  · rename_i hr
    have := nmb_len _ _ _ _ _ _ hr
    split at h
    · cases h
    · split at h
      · split at h
        · cases h
        · rename_i hr2
          have h2 := nwq_len hr2
          cases h
          omega
      · cases h
        omega
/-- All nests want more. -/
def Gdn (ns : List Ne) : Prop := ∀ e ∈ ns, e.w ≤ 256 ∧ e.ts.length < e.w
end Go.Proofs.YtmohehfkbhllpaaGreat

